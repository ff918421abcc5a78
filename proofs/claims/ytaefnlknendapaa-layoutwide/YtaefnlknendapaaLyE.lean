/- What the printer's own methods come to: its text, whether a size fits, the innermost group, spaces. -/
import Derived.Test.YtaefnlknendapaaLyD
import Derived.RegionTactic
import Derived.BigRegion
namespace Go.Proofs.PlatenLayout
open Go Go.RowKit Go.Shelf
set_option linter.unusedVariables false
set_option maxRecDepth 100000

theorem Try.extra : Builder.Extra Try.prog Try.lays105_ren where
  sizeBuilder := by kernel_rfl
  liesBuilder := by kernel_rfl
  t5 := Try.lays105.t5
  a5 := Try.lays105.a5
  z5 := Try.lays105.z5
  v5 := Try.lays105.v5
  infoByte := by kernel_rfl
  cellsByte := by kernel_rfl
  sizeByte := by kernel_rfl
  neB5 := by decide
theorem f105 : Try.lays105_ren.f 105 = 40 := by kernel_rfl
theorem sp_lt (n : Nat) : ∀ c ∈ sp n, c < 256 := by
  intro c hc
  have := (List.mem_replicate.1 hc).2
  omega
/-- strings.Repeat of a space. -/
theorem repeat_sp (c : Nat) (w : World) (hc : c ≤ 1000000) : Calls Try.prog 40 #[.string ⟨#[32]⟩, .int .i64 (c : Nat)] w fun e w' => e = .returned (.string (str (sp c))) ∧ Below w.heap.size w w' := by
  have h := Any.strings_Repeat Try.lays105 Try.extra ⟨#[32]⟩ c w (by omega) (by show 1 * c ≤ _; omega)
  rw [f105] at h
  refine h.mono fun e w' ⟨he, hw⟩ => ⟨?_, hw⟩
  rw [he]
  have e : Lib.repeatL (ByteArray.mk #[32]).data.toList c = (sp c).map UInt8.ofNat := by
    have := Lib.repeatL_replicate 32 1 c
    rw [Nat.mul_one] at this
    show Lib.repeatL (List.replicate 1 32) c = _
    rw [this]
    simp [sp]
  rw [e]
  rfl

/-- What a builder's bytes are as a string. -/
theorem str_mk (l : List Nat) : (⟨(l.map UInt8.ofNat).toArray⟩ : ByteArray) = str l := rfl
set_option maxHeartbeats 2000000 in
theorem string_any {B K : Nat} {w0 w : World} {p bv gv : Value} {wd col : Int} {bs : List Nat} {G : List Gr} (h : PR B K w0 w p bv gv wd col bs G) (hb : ∀ c ∈ bs, c < 256) (hlen : bs.length ≤ 1000000) :
    Calls Try.prog 25 #[.pointer (some ⟨K, 0, none⟩)] w fun e w' => e = .returned (.string (str bs)) ∧ Below B w0 w' := by
  by_cases hbs : bs = []
  · obtain rfl := h.nil hbs
    have c1 : w.drew.cell? ⟨K, 1, none⟩ = some (.slice none 0 0) := h.c1
    have hSD : (Builtin.unsafeSliceData_ #[33] 75 #[.slice none 0 0]).run Try.prog w.drew = .ok (.pointer none) w.drew := rfl
    have hUS : ∀ W, (Builtin.unsafeString_ #[75, 3] 9 #[.pointer none, .int .i64 0]).run Try.prog W = .ok (.string .empty) W := fun W => Lib.run_unsafeString_none W _ _ _ none
    have hB := below_drew h.bel
    have HB := hidden hB
    have HE : Hid (str bs = ByteArray.empty) := by unfold Hid; rw [hbs]; rfl
    clear h hbs hB
    go_enter Try.func25, Try.ntmps25
    go_wp2
    go_region
    all_goals go_wp2
    all_goals go_ret
    all_goals exact ⟨by rw [HE.out]; rfl, HB.out⟩
  · have hl0 : bs.length ≠ 0 := by simpa using hbs
    rcases h.brow.2 with ⟨_, hz⟩ | ⟨g, cap, cur, rfl, hbg, hg, hnc, hcm, hcs, htake⟩
    · exact absurd hz hl0
    have c1 : w.drew.cell? ⟨K, 1, none⟩ = some (.slice (some ⟨g, 0, none⟩) bs.length cap) := h.c1
    have hSD : (Builtin.unsafeSliceData_ #[33] 75 #[.slice (some ⟨g, 0, none⟩) bs.length cap]).run Try.prog w.drew = .ok (.pointer (some ⟨g, 0, none⟩)) w.drew := Lib.run_unsafeSliceData_row _ _ _ _ _ _ (by omega)
    have hml : (bs.map UInt8.ofNat).length = bs.length := by simp
    have hUS : (Builtin.unsafeString_ #[75, 3] 9 #[.pointer (some ⟨g, 0, none⟩), .int .i64 (bs.length : Nat)]).run Try.prog w.drew = .ok (.string (str bs)) (w.drew.freeze ⟨g, 0, none⟩ bs.length) := by
      have := Lib.run_unsafeString_row (P := Try.prog) w.drew 75 3 9 5 Try.underlying75 (by kernel_rfl) g cur.size (by have hg' : w.drew.heap[g]? = some (.cells cur 5 (0, 0)) := hg; simp [World.shape?, hg']) (bs.map UInt8.ofNat) (by simpa using hbs) (by rw [hml, hcs]; omega) (by rw [hml]; omega) (by
        intro j x hx
        have hj : j < bs.length := by have := (List.getElem?_eq_some_iff.1 hx).1; simpa using this
        have h1 := h.brow.cells (g := g) rfl j (.int .u8 x.toNat) (by
          rw [List.getElem?_map] at hx
          simp only [bc, List.getElem?_map]
          cases hq : bs[j]? with
          | none => rw [hq] at hx; cases hx
          | some c =>
            rw [hq] at hx
            simp only [Option.map_some, Option.some.injEq] at hx ⊢
            subst hx
            have := hb c (List.mem_of_getElem? hq)
            simp
            omega)
        exact h1)
      rw [hml] at this
      exact this
    have hB := Lib.below_freeze (below_drew h.bel) (p := ⟨g, 0, none⟩) hbg bs.length
    have HB := hidden hB
    clear h hbs hB hg hcs htake hml hb
    go_enter Try.func25, Try.ntmps25
    go_wp2
    go_region
    all_goals go_wp2
    all_goals go_ret
    all_goals exact ⟨rfl, HB.out⟩
set_option maxHeartbeats 1000000 in
theorem fits_any {B K : Nat} {w0 w : World} {p bv gv : Value} {wd col : Int} {bs : List Nat} {G : List Gr} (h : PR B K w0 w p bv gv wd col bs G) (s : Nat) (hs : s ≤ 2000000000) (hc : 0 ≤ col ∧ col ≤ 1000000) :
    Calls Try.prog 32 #[.pointer (some ⟨K, 0, none⟩), .int .i64 (s : Nat)] w fun e w' => e = .returned (.bool (decide ((s : Int) ≤ wd - col))) ∧ PR B K w0 w' p bv gv wd col bs G ∧ Below w.heap.size w w' := by
  have c2 := h.c2
  have c3 := h.c3
  have H := hidden h
  have HE : Hid (decide (col + (s : Int) ≤ wd) = decide ((s : Int) ≤ wd - col)) := by
    unfold Hid
    apply decide_eq_decide.2
    omega
  clear h
  go_enter Try.func32, Try.ntmps32
  go_wp2_with fail
  go_quiet (fail)
  go_wp2
  go_ret
  exact ⟨by rw [← HE.out]; simp, H.out.grown (grown_dN _ _), below_drewN (Below.refl _ _) _⟩
def gV (g : Gr) : Value := .agg #[.int .i64 g.ind, .bool g.flat, .bool g.whole]
set_option maxHeartbeats 2000000 in
theorem inner_any {B K : Nat} {w0 w : World} {p bv gv : Value} {wd col : Int} {bs : List Nat} {G : List Gr} {g : Gr} (h : PR B K w0 w p bv gv wd col bs (G ++ [g])) (hG : G.length ≤ 1000) :
    Calls Try.prog 36 #[.pointer (some ⟨K, 0, none⟩)] w fun e w' => e = .returned (.agg #[.int .i64 g.ind, .bool g.flat, .bool g.whole]) ∧ PR B K w0 w' p bv gv wd col bs (G ++ [g]) ∧ Below w.heap.size w w' := by
  rcases h.grow.2 with ⟨e, h0⟩ | ⟨gb, cp, cur, e, hbg, hg, hnc, hcm, hcs, ht⟩
  · simp at h0
  rw [List.length_append, List.length_singleton] at e
  subst e
  obtain ⟨r0, r1, r2⟩ := rowG_last G g
  have hrow : w.ownsRow B 78 3 (.slice (some ⟨gb, 0, none⟩) (G ++ [g]).length cp) (G ++ [g]).length (rowG (G ++ [g])) := by have := h.grow; rw [List.length_append, List.length_singleton] at this ⊢; exact this
  have hk : ∀ o, (w.alloc o).cell? ⟨gb, G.length * 3, none⟩ = some (.int .i64 g.ind) ∧ (w.alloc o).cell? ⟨gb, G.length * 3 + 1, none⟩ = some (.bool g.flat) ∧ (w.alloc o).cell? ⟨gb, G.length * 3 + 2, none⟩ = some (.bool g.whole) := fun o => by
    have hr := hrow.alloc o
    have hl : (G ++ [g]).length = G.length + 1 := by simp
    refine ⟨?_, ?_, ?_⟩
    · rw [hr.cellAt _ (by omega)]; exact r0
    · rw [hr.cellAt _ (by omega)]; exact r1
    · rw [hr.cellAt _ (by omega)]; exact r2
  have k0 := fun o => (hk o).1
  have k1 := fun o => (hk o).2.1
  have k2 := fun o => (hk o).2.2
  have c4 : ∀ o, (w.alloc o).cell? ⟨K, 4, none⟩ = some (.slice (some ⟨gb, 0, none⟩) (G.length + 1) cp) := fun o => (h.grown (grownBy_alloc w o)).c4
  have HG : Hid (∀ o, PR B K w0 (w.alloc o) p bv (.slice (some ⟨gb, 0, none⟩) (G.length + 1) cp) wd col bs (G ++ [g])) := fun o => h.grown (grownBy_alloc w o)
  have hwlt := h.lt
  clear h hbg hg hnc hcm hcs ht r0 r1 r2 hrow hk
  generalize G.length = m at *
  have wrm : IntKind.i64.wrap (m : Int) = (m : Int) := IntWalk.i64_in _ (by omega)
  go_enter Try.func36, Try.ntmps36
  go_wp2_with fail
  go_region
  go_wp2
  refine bodyPost_ret (v := .agg #[.int .i64 g.ind, .bool g.flat, .bool g.whole]) (by simp [results, Try.results36, go_sem]) rfl ?_
  exact ⟨rfl, (HG.out _).grown (grown_d _), below_drew ((Below.refl _ _).alloc (Nat.le_refl _) _)⟩
/-- So many spaces are laid at most. -/
def capN (n : Int) : Nat := min n.toNat 65537
set_option maxHeartbeats 2000000 in
theorem spaces_any {B K : Nat} {w0 w : World} {p bv gv : Value} {wd col : Int} {bs : List Nat} {G : List Gr} (h : PR B K w0 w p bv gv wd col bs G) (n : Int) (hn : -2000000000000 ≤ n ∧ n ≤ 2000000000000) (hc : 0 ≤ col ∧ col ≤ 1000000) (hlen : bs.length ≤ 500000) :
    Calls Try.prog 37 #[.pointer (some ⟨K, 0, none⟩), .int .i64 n] w fun e w' => e = .returned (.tuple #[]) ∧ ∃ p' bv', PR B K w0 w' p' bv' gv wd (col + (capN n : Nat)) (bs ++ sp (capN n)) G := by
  have hmn : min (max n 0) 65537 = ((capN n : Nat) : Int) := by unfold capN; omega
  have hcn : capN n ≤ 65537 := by unfold capN; omega
  have cr := repeat_sp (capN n) w.drew (by omega)
  have H := hidden h
  have HN := hidden hmn
  obtain ⟨k, hk⟩ : ∃ k, capN n = k := ⟨_, rfl⟩
  rw [hk] at hcn cr hmn ⊢
  clear h HN hk
  go_enter Try.func37, Try.ntmps37
  go_wp2_with fail
--SPACES
  refine wp_region_held_drew (S := (fun _ => True)) (by kernel_rfl) trivial (fun hHeld => ?_)
  refine take_dst 0 (some 7) rfl rfl (by kernel_rfl) (by kernel_rfl) (by kernel_rfl) (fun _ _ _ h => h) (v := ?_) (Or.inl ⟨by rfl, ?_⟩) (by assumption) ?_
  rotate_left
  · (intro w hSw; (try dsimp only at hSw); go_simp; try with_reducible rfl)
  simp only [Act.put, List.setIfInBounds_toArray, List.set_cons_zero, List.set_cons_succ]
  refine take_dst 1 (some 8) rfl rfl (by kernel_rfl) (by kernel_rfl) (by kernel_rfl) (fun _ _ _ h => h) (v := ?_) (Or.inl ⟨by rfl, ?_⟩) (by assumption) ?_
  rotate_left
  · (intro w hSw; (try dsimp only at hSw); go_simp; try with_reducible rfl)
  simp only [Act.put, List.setIfInBounds_toArray, List.set_cons_zero, List.set_cons_succ]
  refine take_dst 2 (some 9) rfl rfl (by kernel_rfl) (by kernel_rfl) (by kernel_rfl) (fun _ _ _ h => h) (v := ?_) (Or.inl ⟨by rfl, ?_⟩) (by assumption) ?_
  rotate_left
  · (intro w hSw; (try dsimp only at hSw); go_simp; try with_reducible rfl)
  simp only [Act.put, List.setIfInBounds_toArray, List.set_cons_zero, List.set_cons_succ]
  refine take_dst 3 (some 10) rfl rfl (by kernel_rfl) (by kernel_rfl) (by kernel_rfl) (fun _ _ _ h => h) (v := ?_) (Or.inl ⟨by rfl, ?_⟩) (by assumption) ?_
  rotate_left
  · (intro w hSw; (try dsimp only at hSw); go_simp; try with_reducible rfl)
  simp only [Act.put, List.setIfInBounds_toArray, List.set_cons_zero, List.set_cons_succ]
  refine wpAnyH_ready (rs := [4]) (by kernel_rfl) (by simp) ?_
  refine AllReadyH.cons rfl (fun K hK => ?_) AllReadyH.nil
  go_simp
  refine cr.mono ?_
  rintro e w1 ⟨rfl, hb1⟩
  have H1 := (H.out.grown (grown_d w)).below hb1
  have cw := writeS_any H1 (sp k) (sp_lt k) (by simp [sp]; omega)
  refine hK.out _ _ trivial (fun hHeld1 => ?_)
  clear hK K H1 hb1 cr
  refine wpAnyH_ready (rs := [5]) (by kernel_rfl) (by simp) ?_
  refine AllReadyH.cons rfl (fun K hK => ?_) AllReadyH.nil
  go_simp
  refine cw.mono ?_
  rintro e w2 ⟨rfl, ⟨p', bv', h2⟩, _⟩
  refine hK.out _ _ trivial (fun hHeld2 => ?_)
  clear hK K cw hHeld hHeld1 hHeld2
  refine wpAnyH_done (by kernel_rfl) ?_ _
  have c3 := h2.c3
  have f3 := h2.free 3
  have H3 := hidden (h2.column (col + (k : Nat)))
  clear h2
  go_wp2_with fail
  go_end0
  exact ⟨rfl, _, _, H3.out⟩
end Go.Proofs.PlatenLayout
