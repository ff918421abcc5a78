/- What the printer's own methods come to: its text, whether a size fits, the innermost group, spaces. -/
import Derived.Test.YtfakfgmengcndaaKI
import Derived.RegionTactic
import Derived.BigRegion
namespace Go.Proofs.PlatenLayout
open Go Go.RowKit Go.Shelf
set_option linter.unusedVariables false
set_option maxRecDepth 100000

theorem Try.extra : Builder.Extra Try.prog Try.lays105_ren where
  sizeBuilder := by kernel_rfl
  liesBuilder := by kernel_rfl
  t5 := Try.lays105.t5
  a5 := Try.lays105.a5
  z5 := Try.lays105.z5
  v5 := Try.lays105.v5
  infoByte := by kernel_rfl
  cellsByte := by kernel_rfl
  sizeByte := by kernel_rfl
  neB5 := by decide
theorem f105 : Try.lays105_ren.f 105 = 99 := by kernel_rfl
theorem sp_lt (n : Nat) : ∀ c ∈ sp n, c < 256 := by
  intro c hc
  have := (List.mem_replicate.1 hc).2
  omega
/-- strings.Repeat of a space. -/
theorem repeat_sp (c : Nat) (w : World) (hc : c ≤ 1000000) : Calls Try.prog 99 #[.string ⟨#[32]⟩, .int .i64 (c : Nat)] w fun e w' => e = .returned (.string (str (sp c))) ∧ Below w.heap.size w w' := by
  have h := Any.strings_Repeat Try.lays105 Try.extra ⟨#[32]⟩ c w (by omega) (by show 1 * c ≤ _; omega)
  rw [f105] at h
  refine h.mono fun e w' ⟨he, hw⟩ => ⟨?_, hw⟩
  rw [he]
  have e : Lib.repeatL (ByteArray.mk #[32]).data.toList c = (sp c).map UInt8.ofNat := by
    have := Lib.repeatL_replicate 32 1 c
    rw [Nat.mul_one] at this
    show Lib.repeatL (List.replicate 1 32) c = _
    rw [this]
    simp [sp]
  rw [e]
  rfl

/-- What a builder's bytes are as a string. -/
theorem str_mk (l : List Nat) : (⟨(l.map UInt8.ofNat).toArray⟩ : ByteArray) = str l := rfl
set_option maxHeartbeats 2000000 in
theorem string_any {B K : Nat} {w0 w : World} {p bv gv : Value} {wd col : Int} {bs : List Nat} {G : List Gr} (h : PR B K w0 w p bv gv wd col bs G) (hb : ∀ c ∈ bs, c < 256) (hlen : bs.length ≤ 1000000) :
    Calls Try.prog 51 #[.pointer (some ⟨K, 0, none⟩)] w fun e w' => e = .returned (.string (str bs)) ∧ Below B w0 w' := by
  by_cases hbs : bs = []
  · obtain rfl := h.nil hbs
    have c1 : w.drew.cell? ⟨K, 1, none⟩ = some (.slice none 0 0) := h.c1
    have hSD : (Builtin.unsafeSliceData_ #[22] 115 #[.slice none 0 0]).run Try.prog w.drew = .ok (.pointer none) w.drew := rfl
    have hUS : ∀ W, (Builtin.unsafeString_ #[115, 3] 9 #[.pointer none, .int .i64 0]).run Try.prog W = .ok (.string .empty) W := fun W => Lib.run_unsafeString_none W _ _ _ none
    have hB := below_drew h.bel
    have HB := hidden hB
    have HE : Hid (str bs = ByteArray.empty) := by unfold Hid; rw [hbs]; rfl
    clear h hbs hB
    go_enter Try.func51, Try.ntmps51
    go_wp2
    go_region
    all_goals go_wp2
    all_goals go_ret
    all_goals exact ⟨by rw [HE.out]; rfl, HB.out⟩
  · have hl0 : bs.length ≠ 0 := by simpa using hbs
    rcases h.brow.2 with ⟨_, hz⟩ | ⟨g, cap, cur, rfl, hbg, hg, hnc, hcm, hcs, htake⟩
    · exact absurd hz hl0
    have c1 : w.drew.cell? ⟨K, 1, none⟩ = some (.slice (some ⟨g, 0, none⟩) bs.length cap) := h.c1
    have hSD : (Builtin.unsafeSliceData_ #[22] 115 #[.slice (some ⟨g, 0, none⟩) bs.length cap]).run Try.prog w.drew = .ok (.pointer (some ⟨g, 0, none⟩)) w.drew := Lib.run_unsafeSliceData_row _ _ _ _ _ _ (by omega)
    have hml : (bs.map UInt8.ofNat).length = bs.length := by simp
    have hUS : (Builtin.unsafeString_ #[115, 3] 9 #[.pointer (some ⟨g, 0, none⟩), .int .i64 (bs.length : Nat)]).run Try.prog w.drew = .ok (.string (str bs)) (w.drew.freeze ⟨g, 0, none⟩ bs.length) := by
      have := Lib.run_unsafeString_row (P := Try.prog) w.drew 115 3 9 5 Try.underlying115 (by kernel_rfl) g cur.size (by have hg' : w.drew.heap[g]? = some (.cells cur 5 (0, 0)) := hg; simp [World.shape?, hg']) (bs.map UInt8.ofNat) (by simpa using hbs) (by rw [hml, hcs]; omega) (by rw [hml]; omega) (by
        intro j x hx
        have hj : j < bs.length := by have := (List.getElem?_eq_some_iff.1 hx).1; simpa using this
        have h1 := h.brow.cells (g := g) rfl j (.int .u8 x.toNat) (by
          rw [List.getElem?_map] at hx
          simp only [bc, List.getElem?_map]
          cases hq : bs[j]? with
          | none => rw [hq] at hx; cases hx
          | some c =>
            rw [hq] at hx
            simp only [Option.map_some, Option.some.injEq] at hx ⊢
            subst hx
            have := hb c (List.mem_of_getElem? hq)
            simp
            omega)
        exact h1)
      rw [hml] at this
      exact this
    have hB := Lib.below_freeze (below_drew h.bel) (p := ⟨g, 0, none⟩) hbg bs.length
    have HB := hidden hB
    clear h hbs hB hg hcs htake hml hb
    go_enter Try.func51, Try.ntmps51
    go_wp2
    go_region
    all_goals go_wp2
    all_goals go_ret
    all_goals exact ⟨rfl, HB.out⟩
set_option maxHeartbeats 1000000 in
theorem fits_any {B K : Nat} {w0 w : World} {p bv gv : Value} {wd col : Int} {bs : List Nat} {G : List Gr} (h : PR B K w0 w p bv gv wd col bs G) (s : Nat) (hs : s ≤ 2000000000) (hc : 0 ≤ col ∧ col ≤ 1000000) :
    Calls Try.prog 76 #[.pointer (some ⟨K, 0, none⟩), .int .i64 (s : Nat)] w fun e w' => e = .returned (.bool (decide ((s : Int) ≤ wd - col))) ∧ PR B K w0 w' p bv gv wd col bs G ∧ Below w.heap.size w w' := by
  have c2 := h.c2
  have c3 := h.c3
  have H := hidden h
  have HE : Hid (decide (col + (s : Int) ≤ wd) = decide ((s : Int) ≤ wd - col)) := by
    unfold Hid
    apply decide_eq_decide.2
    omega
  clear h
  go_enter Try.func76, Try.ntmps76
  go_wp2_with fail
  go_quiet (fail)
  go_wp2
  go_ret
  exact ⟨by rw [← HE.out]; simp, H.out.grown (grown_dN _ _), below_drewN (Below.refl _ _) _⟩
def gV (g : Gr) : Value := .agg #[.int .i64 g.ind, .bool g.flat, .bool g.whole]
set_option maxHeartbeats 2000000 in
theorem inner_any {B K : Nat} {w0 w : World} {p bv gv : Value} {wd col : Int} {bs : List Nat} {G : List Gr} {g : Gr} (h : PR B K w0 w p bv gv wd col bs (G ++ [g])) (hG : G.length ≤ 1500) :
    Calls Try.prog 93 #[.pointer (some ⟨K, 0, none⟩)] w fun e w' => e = .returned (.agg #[.int .i64 g.ind, .bool g.flat, .bool g.whole]) ∧ PR B K w0 w' p bv gv wd col bs (G ++ [g]) ∧ Below w.heap.size w w' := by
  rcases h.grow.2 with ⟨e, h0⟩ | ⟨gb, cp, cur, e, hbg, hg, hnc, hcm, hcs, ht⟩
  · simp at h0
  rw [List.length_append, List.length_singleton] at e
  subst e
  obtain ⟨r0, r1, r2⟩ := rowG_last G g
  have hrow : w.ownsRow B 120 3 (.slice (some ⟨gb, 0, none⟩) (G ++ [g]).length cp) (G ++ [g]).length (rowG (G ++ [g])) := by have := h.grow; rw [List.length_append, List.length_singleton] at this ⊢; exact this
  have hk : ∀ o, (w.alloc o).cell? ⟨gb, G.length * 3, none⟩ = some (.int .i64 g.ind) ∧ (w.alloc o).cell? ⟨gb, G.length * 3 + 1, none⟩ = some (.bool g.flat) ∧ (w.alloc o).cell? ⟨gb, G.length * 3 + 2, none⟩ = some (.bool g.whole) := fun o => by
    have hr := hrow.alloc o
    have hl : (G ++ [g]).length = G.length + 1 := by simp
    refine ⟨?_, ?_, ?_⟩
    · rw [hr.cellAt _ (by omega)]; exact r0
    · rw [hr.cellAt _ (by omega)]; exact r1
    · rw [hr.cellAt _ (by omega)]; exact r2
  have k0 := fun o => (hk o).1
  have k1 := fun o => (hk o).2.1
  have k2 := fun o => (hk o).2.2
  have c4 : ∀ o, (w.alloc o).cell? ⟨K, 4, none⟩ = some (.slice (some ⟨gb, 0, none⟩) (G.length + 1) cp) := fun o => (h.grown (grownBy_alloc w o)).c4
  have HG : Hid (∀ o, PR B K w0 (w.alloc o) p bv (.slice (some ⟨gb, 0, none⟩) (G.length + 1) cp) wd col bs (G ++ [g])) := fun o => h.grown (grownBy_alloc w o)
  have hwlt := h.lt
  clear h hbg hg hnc hcm hcs ht r0 r1 r2 hrow hk
  generalize G.length = m at *
  have wrm : IntKind.i64.wrap (m : Int) = (m : Int) := IntWalk.i64_in _ (by omega)
  go_enter Try.func93, Try.ntmps93
  go_wp2_with fail
  go_region
  go_wp2
  refine bodyPost_ret (v := .agg #[.int .i64 g.ind, .bool g.flat, .bool g.whole]) (by simp [results, Try.results93, go_sem]) rfl ?_
  exact ⟨rfl, (HG.out _).grown (grown_d _), below_drew ((Below.refl _ _).alloc (Nat.le_refl _) _)⟩
/-- So many spaces are laid at most. -/
def capN (n : Int) : Nat := min n.toNat 65537
set_option maxHeartbeats 2000000 in
theorem spaces_any {B K : Nat} {w0 w : World} {p bv gv : Value} {wd col : Int} {bs : List Nat} {G : List Gr} (h : PR B K w0 w p bv gv wd col bs G) (n : Int) (hn : -2000000000000 ≤ n ∧ n ≤ 2000000000000) (hc : 0 ≤ col ∧ col ≤ 1000000) (hlen : bs.length ≤ 500000) :
    Calls Try.prog 94 #[.pointer (some ⟨K, 0, none⟩), .int .i64 n] w fun e w' => e = .returned (.tuple #[]) ∧ ∃ p' bv', PR B K w0 w' p' bv' gv wd (col + (capN n : Nat)) (bs ++ sp (capN n)) G := by
  have hmn : min (max n 0) 65537 = ((capN n : Nat) : Int) := by unfold capN; omega
  have hcn : capN n ≤ 65537 := by unfold capN; omega
  have cr := repeat_sp (capN n) w.drew (by omega)
  have H := hidden h
  have HN := hidden hmn
  obtain ⟨k, hk⟩ : ∃ k, capN n = k := ⟨_, rfl⟩
  rw [hk] at hcn cr hmn ⊢
  clear h HN hk
  go_enter Try.func94, Try.ntmps94
  go_wp2_with fail
--SPACES
  refine wp_region_held_drew (S := (fun _ => True)) (by kernel_rfl) trivial (fun hHeld => ?_)
  refine take_dst 0 (some 7) rfl rfl (by kernel_rfl) (by kernel_rfl) (by kernel_rfl) (fun _ _ _ h => h) (v := ?_) (Or.inl ⟨by rfl, ?_⟩) (by assumption) ?_
  rotate_left
  · (intro w hSw; (try dsimp only at hSw); go_simp; try with_reducible rfl)
  simp only [Act.put, List.setIfInBounds_toArray, List.set_cons_zero, List.set_cons_succ]
  refine take_dst 1 (some 8) rfl rfl (by kernel_rfl) (by kernel_rfl) (by kernel_rfl) (fun _ _ _ h => h) (v := ?_) (Or.inl ⟨by rfl, ?_⟩) (by assumption) ?_
  rotate_left
  · (intro w hSw; (try dsimp only at hSw); go_simp; try with_reducible rfl)
  simp only [Act.put, List.setIfInBounds_toArray, List.set_cons_zero, List.set_cons_succ]
  refine take_dst 2 (some 9) rfl rfl (by kernel_rfl) (by kernel_rfl) (by kernel_rfl) (fun _ _ _ h => h) (v := ?_) (Or.inl ⟨by rfl, ?_⟩) (by assumption) ?_
  rotate_left
  · (intro w hSw; (try dsimp only at hSw); go_simp; try with_reducible rfl)
  simp only [Act.put, List.setIfInBounds_toArray, List.set_cons_zero, List.set_cons_succ]
  refine take_dst 3 (some 10) rfl rfl (by kernel_rfl) (by kernel_rfl) (by kernel_rfl) (fun _ _ _ h => h) (v := ?_) (Or.inl ⟨by rfl, ?_⟩) (by assumption) ?_
  rotate_left
  · (intro w hSw; (try dsimp only at hSw); go_simp; try with_reducible rfl)
  simp only [Act.put, List.setIfInBounds_toArray, List.set_cons_zero, List.set_cons_succ]
  refine wpAnyH_ready (rs := [4]) (by kernel_rfl) (by simp) ?_
  refine AllReadyH.cons rfl (fun K hK => ?_) AllReadyH.nil
  go_simp
  refine cr.mono ?_
  rintro e w1 ⟨rfl, hb1⟩
  have H1 := (H.out.grown (grown_d w)).below hb1
  have cw := writeS_any H1 (sp k) (sp_lt k) (by simp [sp]; omega)
  refine hK.out _ _ trivial (fun hHeld1 => ?_)
  clear hK K H1 hb1 cr
  refine wpAnyH_ready (rs := [5]) (by kernel_rfl) (by simp) ?_
  refine AllReadyH.cons rfl (fun K hK => ?_) AllReadyH.nil
  go_simp
  refine cw.mono ?_
  rintro e w2 ⟨rfl, ⟨p', bv', h2⟩, _⟩
  refine hK.out _ _ trivial (fun hHeld2 => ?_)
  clear hK K cw hHeld hHeld1 hHeld2
  refine wpAnyH_done (by kernel_rfl) ?_ _
  have c3 := h2.c3
  have f3 := h2.free 3
  have H3 := hidden (h2.column (col + (k : Nat)))
  clear h2
  go_wp2_with fail
  go_end0
  exact ⟨rfl, _, _, H3.out⟩
end Go.Proofs.PlatenLayout

/- What gap, begin and item of the printer come to. -/
namespace Go.Proofs.PlatenLayout
open Go Go.RowKit Go.Shelf
set_option linter.unusedVariables false
set_option maxRecDepth 100000

def PM (B K : Nat) (w0 : World) (wd : Int) (s : Ly) (w : World) : Prop := ∃ p bv gv, PR B K w0 w p bv gv wd s.col s.p (s.gs.reverse ++ [s.g])
/-- A break printed. -/
def gapS (s : Ly) (x : It) (fits : Bool) : Ly :=
  if s.g.flat = true ∨ (s.g.whole = false ∧ fits = true) then { s with p := s.p ++ sp (capN x.n), col := s.col + (capN x.n : Nat) }
  else { s with p := s.p ++ [10] ++ sp (capN (s.g.ind + x.off)), col := (capN (s.g.ind + x.off) : Nat) }
/-- What an item's value is. -/
def itV (x : It) : Value := .agg #[.int .u8 (x.kind : Nat), .string (str x.tx), .int .i64 x.n, .int .i64 x.off, .bool x.col, .bool x.whole]
theorem cell_of {w : World} {k : Nat} {x : Array Value} {t : TypeId} (h : w.heap[k]? = some (.cells x t (0, 0))) (j : Nat) : w.cell? ⟨k, j, none⟩ = x[j]? := by simp [World.cell?, h]

set_option maxHeartbeats 4000000 in
theorem gap_any {B K : Nat} {w0 w : World} {wd : Int} {s : Ly} (h : PM B K w0 wd s w) (x : It) (ok : OkIt x) (fits : Bool) (hc : 0 ≤ s.col ∧ s.col ≤ 1000000) (hlen : s.p.length ≤ 400000) (hg : s.gs.length ≤ 1500) (hi : -1100000000000 ≤ s.g.ind ∧ s.g.ind ≤ 1100000000000) :
    Calls Try.prog 75 #[.pointer (some ⟨K, 0, none⟩), .agg #[.int .u8 (x.kind : Nat), .string (str x.tx), .int .i64 x.n, .int .i64 x.off, .bool x.col, .bool x.whole], .bool fits] w fun e w' => e = .returned (.tuple #[]) ∧ PM B K w0 wd (gapS s x fits) w' := by
  obtain ⟨q, col, ⟨fl, wh, ind⟩, gs⟩ := s
  obtain ⟨p, bv, gv, h⟩ := h
  simp only at h hc hlen hg hi
  have h1 := h.grown (grownBy_alloc w (.cells #[.int .u8 (x.kind : Nat), .string (str x.tx), .int .i64 x.n, .int .i64 x.off, .bool x.col, .bool x.whole] 54))
  have ci := inner_any h1 (by rw [List.length_reverse]; exact hg)
  have hM : (w.alloc (.cells #[.int .u8 (x.kind : Nat), .string (str x.tx), .int .i64 x.n, .int .i64 x.off, .bool x.col, .bool x.whole] 54)).heap[w.heap.size]? = some (.cells #[.int .u8 (x.kind : Nat), .string (str x.tx), .int .i64 x.n, .int .i64 x.off, .bool x.col, .bool x.whole] 54 (0, 0)) := heap_alloc_new _ _
  have hMK : w.heap.size ≠ K := by have := h.lt; omega
  clear h h1
  go_enter Try.func75, Try.ntmps75
  go_wp2_with fail
  refine ci.mono ?_
  rintro e w2 ⟨rfl, h2, hb2⟩
  clear ci
  have hM2 := (hb2.block _ (Array.getElem?_eq_some_iff.1 hM).1).trans hM
  have H3 := hidden (h2.grown (grownBy_alloc w2 (.cells #[.int .i64 ind, .bool fl, .bool wh] 120)))
  have hM3 := (Below.heap_alloc w2 (.cells #[.int .i64 ind, .bool fl, .bool wh] 120) _ (Array.getElem?_eq_some_iff.1 hM2).1).trans hM2
  have hN3 : (w2.alloc (.cells #[.int .i64 ind, .bool fl, .bool wh] 120)).heap[w2.heap.size]? = some (.cells #[.int .i64 ind, .bool fl, .bool wh] 120 (0, 0)) := heap_alloc_new _ _
  have hNK : w2.heap.size ≠ K := by have := h2.lt; omega
  generalize w.heap.size = M at *
  clear hb2 hM hM2 h2
  have g0 := cell_of hN3 0
  have g1 := cell_of hN3 1
  have g2 := cell_of hN3 2
  have i2 := cell_of hM3 2
  simp only [List.getElem?_toArray, List.getElem?_cons_zero, List.getElem?_cons_succ] at g0 g1 g2 i2
  have HM3 := hidden hM3
  have HN3 := hidden hN3
  clear hM3 hN3
  cases fl with
  | true =>
    have hN := spaces_any H3.out x.n (by have := ok.n; omega) hc (by omega)
    have HG : Hid (gapS ⟨q, col, ⟨true, wh, ind⟩, gs⟩ x fits = ⟨q ++ sp (capN x.n), col + (capN x.n : Nat), ⟨true, wh, ind⟩, gs⟩) := by unfold Hid gapS; rw [if_pos (Or.inl rfl)]
    clear ok H3
    go_wp2_with fail
    refine hN.mono ?_
    rintro e w4 ⟨rfl, p', bv', h4⟩
    have H4 := hidden h4
    clear hN h4
    go_wp2_with fail
    (try simp only [Exit.inBlock, Exit.then]); refine bodyPost_ret (results_none rfl _ _ _) rfl ?_
    rw [HG.out]
    exact ⟨rfl, _, _, _, H4.out⟩
  | false =>
    cases wh with
    | true =>
      have hB := writeB_any H3.out 10 (by omega)
      rw [show ((10 : Nat) : Int) = 10 from rfl] at hB
      have HG : Hid (gapS ⟨q, col, ⟨false, true, ind⟩, gs⟩ x fits = ⟨q ++ [10] ++ sp (capN (ind + x.off)), (capN (ind + x.off) : Nat), ⟨false, true, ind⟩, gs⟩) := by unfold Hid gapS; rw [if_neg (by simp)]
      have hoff := ok.off
      clear ok H3
      go_wp2_with fail
      refine hB.mono ?_
      rintro e w4 ⟨rfl, ⟨p', bv', h4⟩, hk4⟩
      have hM4 := hk4 M _ 54 HM3.out hMK (by decide)
      have hN4 := hk4 w2.heap.size _ 120 HN3.out hNK (by decide)
      have c3 := h4.c3
      have f3 := h4.free 3
      have h5 := h4.column 0
      have e0 : (w4.setCell ⟨K, 3, none⟩ (.int .i64 0)).cell? ⟨w2.heap.size, 0, none⟩ = some (.int .i64 ind) := by rw [cell_of ((set_other w4 K 3 (.int .i64 0) w2.heap.size hNK).trans hN4)]; rfl
      have e3 : (w4.setCell ⟨K, 3, none⟩ (.int .i64 0)).cell? ⟨M, 3, none⟩ = some (.int .i64 x.off) := by rw [cell_of ((set_other w4 K 3 (.int .i64 0) M hMK).trans hM4)]; rfl
      have hS := spaces_any h5 (ind + x.off) (by omega) (by omega) (by simp; omega)
      rw [Int.zero_add] at hS
      clear hB h4 h5 hk4 hM4 hN4 g0 g1 g2 i2
      go_wp2_with fail
      refine hS.mono ?_
      rintro e w5 ⟨rfl, p'', bv'', h6⟩
      have H6 := hidden h6
      clear hS h6
      go_wp2_with fail
      go_end0
      rw [HG.out]
      exact ⟨rfl, _, _, _, H6.out⟩
    | false =>
      cases fits with
      | true =>
        have hN := spaces_any H3.out x.n (by have := ok.n; omega) hc (by omega)
        have HG : Hid (gapS ⟨q, col, ⟨false, false, ind⟩, gs⟩ x true = ⟨q ++ sp (capN x.n), col + (capN x.n : Nat), ⟨false, false, ind⟩, gs⟩) := by unfold Hid gapS; rw [if_pos (Or.inr ⟨rfl, rfl⟩)]
        clear ok H3
        go_wp2_with fail
        refine hN.mono ?_
        rintro e w4 ⟨rfl, p', bv', h4⟩
        have H4 := hidden h4
        clear hN h4
        go_wp2_with fail
        (try simp only [Exit.inBlock, Exit.then]); refine bodyPost_ret (results_none rfl _ _ _) rfl ?_
        rw [HG.out]
        exact ⟨rfl, _, _, _, H4.out⟩
      | false =>
        have hB := writeB_any H3.out 10 (by omega)
        rw [show ((10 : Nat) : Int) = 10 from rfl] at hB
        have HG : Hid (gapS ⟨q, col, ⟨false, false, ind⟩, gs⟩ x false = ⟨q ++ [10] ++ sp (capN (ind + x.off)), (capN (ind + x.off) : Nat), ⟨false, false, ind⟩, gs⟩) := by unfold Hid gapS; rw [if_neg (by simp)]
        have hoff := ok.off
        clear ok H3
        go_wp2_with fail
        refine hB.mono ?_
        rintro e w4 ⟨rfl, ⟨p', bv', h4⟩, hk4⟩
        have hM4 := hk4 M _ 54 HM3.out hMK (by decide)
        have hN4 := hk4 w2.heap.size _ 120 HN3.out hNK (by decide)
        have c3 := h4.c3
        have f3 := h4.free 3
        have h5 := h4.column 0
        have e0 : (w4.setCell ⟨K, 3, none⟩ (.int .i64 0)).cell? ⟨w2.heap.size, 0, none⟩ = some (.int .i64 ind) := by rw [cell_of ((set_other w4 K 3 (.int .i64 0) w2.heap.size hNK).trans hN4)]; rfl
        have e3 : (w4.setCell ⟨K, 3, none⟩ (.int .i64 0)).cell? ⟨M, 3, none⟩ = some (.int .i64 x.off) := by rw [cell_of ((set_other w4 K 3 (.int .i64 0) M hMK).trans hM4)]; rfl
        have hS := spaces_any h5 (ind + x.off) (by omega) (by omega) (by simp; omega)
        rw [Int.zero_add] at hS
        clear hB h4 h5 hk4 hM4 hN4 g0 g1 g2 i2
        go_wp2_with fail
        refine hS.mono ?_
        rintro e w5 ⟨rfl, p'', bv'', h6⟩
        have H6 := hidden h6
        clear hS h6
        go_wp2_with fail
        go_end0
        rw [HG.out]
        exact ⟨rfl, _, _, _, H6.out⟩
end Go.Proofs.PlatenLayout

/- What begin of the printer comes to. -/
namespace Go.Proofs.PlatenLayout
open Go Go.RowKit Go.Shelf
set_option linter.unusedVariables false
set_option maxRecDepth 100000

/-- A group begun. -/
def begS (s : Ly) (x : It) (fits : Bool) : Ly := { s with g := ⟨fits, x.whole, (if x.col then s.col else s.g.ind) + x.off⟩, gs := s.g :: s.gs }
theorem one3 (a : Int) (b c : Bool) : ∀ u ∈ [Value.int .i64 a, Value.bool b, Value.bool c], u.oneCell' = true := by
  intro u hu
  simp at hu
  rcases hu with rfl | rfl | rfl <;> rfl
set_option maxHeartbeats 4000000 in
theorem begin_any {B KB : Nat} {w0 w : World} {wd : Int} {s : Ly} (h : PM B KB w0 wd s w) (x : It) (ok : OkIt x) (fits : Bool) (hc : 0 ≤ s.col ∧ s.col ≤ 1000000) (hg : s.gs.length ≤ 1500) (hi : -1100000000000 ≤ s.g.ind ∧ s.g.ind ≤ 1100000000000) :
    Calls Try.prog 77 #[.pointer (some ⟨KB, 0, none⟩), .agg #[.int .u8 (x.kind : Nat), .string (str x.tx), .int .i64 x.n, .int .i64 x.off, .bool x.col, .bool x.whole], .bool fits] w fun e w' => e = .returned (.tuple #[]) ∧ PM B KB w0 wd (begS s x fits) w' := by
  obtain ⟨i78, hi78, hz78, hy78, hb78⟩ := info_parts info78
  obtain ⟨q, col, ⟨fl, wh, ind⟩, gs⟩ := s
  obtain ⟨p, bv, gv, h⟩ := h
  simp only at h hc hg hi
  have h1 := h.grown (grownBy_alloc w (.cells #[.int .u8 (x.kind : Nat), .string (str x.tx), .int .i64 x.n, .int .i64 x.off, .bool x.col, .bool x.whole] 54))
  have ci := inner_any h1 (by rw [List.length_reverse]; exact hg)
  have hM : (w.alloc (.cells #[.int .u8 (x.kind : Nat), .string (str x.tx), .int .i64 x.n, .int .i64 x.off, .bool x.col, .bool x.whole] 54)).heap[w.heap.size]? = some (.cells #[.int .u8 (x.kind : Nat), .string (str x.tx), .int .i64 x.n, .int .i64 x.off, .bool x.col, .bool x.whole] 54 (0, 0)) := heap_alloc_new _ _
  have hMK : w.heap.size ≠ KB := by have := h.lt; omega
  clear h h1
  have hoff := ok.off
  clear ok
  have hfd : ∀ w : World, (Instr.field 120 (.agg #[.int .i64 ind, .bool fl, .bool wh]) 0).run Try.prog w = .ok (.int .i64 ind) w := fun _ => by kernel_rfl
  go_enter Try.func77, Try.ntmps77
  go_wp2_with fail
  refine ci.mono ?_
  rintro e w2 ⟨rfl, h2, hb2⟩
  clear ci
  have hM3 := (hb2.block _ (Array.getElem?_eq_some_iff.1 hM).1).trans hM
  have H3 := hidden h2
  have c3 := h2.c3
  generalize w.heap.size = M at *
  clear hb2 hM h2
  have i3 := cell_of hM3 3
  have i4 := cell_of hM3 4
  have i5 := cell_of hM3 5
  simp only [List.getElem?_toArray, List.getElem?_cons_zero, List.getElem?_cons_succ] at i3 i4 i5
  have HM3 := hidden hM3
  clear hM3
  obtain ⟨xc, hxc⟩ : ∃ xc, x.col = xc := ⟨_, rfl⟩
  rw [hxc] at i4
  cases xc with
  | true =>
    have HE0 : Hid ((if x.col then col else ind) = col) := by unfold Hid; rw [hxc]; rfl
    have he1 : -1100000000000 ≤ col ∧ col ≤ 1100000000000 := by omega
    clear hxc
    go_wp2_with fail
    have wr0 : IntKind.i64.wrap (col + x.off) = col + x.off := IntWalk.i64_in _ (by omega)
    refine wp_region_held_drew (S := (fun u => u.cell? ⟨M, 3, none⟩ = some (.int .i64 x.off) ∧ u.cell? ⟨M, 5, none⟩ = some (.bool x.whole))) (by kernel_rfl) ⟨i3, i5⟩ (fun hHeld => ?_)
    refine take_dst 0 (some 16) rfl rfl (by kernel_rfl) (by kernel_rfl) (by kernel_rfl) (fun _ _ _ h => h) (v := ?_) (Or.inl ⟨by rfl, ?_⟩) (by assumption) ?_
    rotate_left
    · (intro w hSw; (try dsimp only at hSw); go_simp; try with_reducible rfl)
    simp only [Act.put, List.setIfInBounds_toArray, List.set_cons_zero, List.set_cons_succ]
    refine take_dst 1 (some 17) rfl rfl (by kernel_rfl) (by kernel_rfl) (by kernel_rfl) (fun _ _ _ h => h) (v := ?_) (Or.inl ⟨by rfl, ?_⟩) (by assumption) ?_
    rotate_left
    · (intro w hSw; (try dsimp only at hSw); go_simp; try with_reducible rfl)
    simp only [Act.put, List.setIfInBounds_toArray, List.set_cons_zero, List.set_cons_succ]
    refine take_dst 2 (some 18) rfl rfl (by kernel_rfl) (by kernel_rfl) (by kernel_rfl) (fun _ _ _ h => h) (v := ?_) (Or.inl ⟨by rfl, ?_⟩) (by assumption) ?_
    rotate_left
    · (intro w hSw; (try dsimp only at hSw); go_simp; try with_reducible rfl)
    simp only [Act.put, List.setIfInBounds_toArray, List.set_cons_zero, List.set_cons_succ]
    refine take_dst 3 (some 19) rfl rfl (by kernel_rfl) (by kernel_rfl) (by kernel_rfl) (fun _ _ _ h => h) (v := ?_) (Or.inl ⟨by rfl, ?_⟩) (by assumption) ?_
    rotate_left
    · (intro w hSw; (try dsimp only at hSw); go_simp; try with_reducible rfl)
    simp only [Act.put, List.setIfInBounds_toArray, List.set_cons_zero, List.set_cons_succ]
    refine take_dst 5 (some 21) rfl rfl (by kernel_rfl) (by kernel_rfl) (by kernel_rfl) (fun _ _ _ h => h) (v := ?_) (Or.inl ⟨by rfl, ?_⟩) (by assumption) ?_
    rotate_left
    · (intro w hSw; (try dsimp only at hSw); go_simp; try with_reducible rfl)
    simp only [Act.put, List.setIfInBounds_toArray, List.set_cons_zero, List.set_cons_succ]
    refine take_dst 6 (some 22) rfl rfl (by kernel_rfl) (by kernel_rfl) (by kernel_rfl) (fun _ _ _ h => h) (v := ?_) (Or.inl ⟨by rfl, ?_⟩) (by assumption) ?_
    rotate_left
    · (intro w hSw; (try dsimp only at hSw); go_simp; try with_reducible rfl)
    simp only [Act.put, List.setIfInBounds_toArray, List.set_cons_zero, List.set_cons_succ]
    refine take_dst 7 (some 23) rfl rfl (by kernel_rfl) (by kernel_rfl) (by kernel_rfl) (fun _ _ _ h => h) (v := ?_) (Or.inl ⟨by rfl, ?_⟩) (by assumption) ?_
    rotate_left
    · (intro w hSw; (try dsimp only at hSw); go_simp; try with_reducible rfl)
    simp only [Act.put, List.setIfInBounds_toArray, List.set_cons_zero, List.set_cons_succ]
    refine take_dst 8 (some 24) rfl rfl (by kernel_rfl) (by kernel_rfl) (by kernel_rfl) (fun _ _ _ h => h) (v := ?_) (Or.inl ⟨by rfl, ?_⟩) (by assumption) ?_
    rotate_left
    · (intro w hSw; (try dsimp only at hSw); go_simp; try with_reducible rfl)
    simp only [Act.put, List.setIfInBounds_toArray, List.set_cons_zero, List.set_cons_succ]
    refine take_dst 9 (some 25) rfl rfl (by kernel_rfl) (by kernel_rfl) (by kernel_rfl) (fun _ _ _ h => h) (v := ?_) (Or.inl ⟨by rfl, ?_⟩) (by assumption) ?_
    rotate_left
    · (intro w hSw; (try dsimp only at hSw); go_simp; try with_reducible rfl)
    simp only [Act.put, List.setIfInBounds_toArray, List.set_cons_zero, List.set_cons_succ]
    refine take_dst 10 (some 26) rfl rfl (by kernel_rfl) (by kernel_rfl) (by kernel_rfl) (fun _ _ _ h => h) (v := ?_) (Or.inl ⟨by rfl, ?_⟩) (by assumption) ?_
    rotate_left
    · (intro w hSw; (try dsimp only at hSw); go_simp; try with_reducible rfl)
    simp only [Act.put, List.setIfInBounds_toArray, List.set_cons_zero, List.set_cons_succ]
    refine take_dst 11 (some 27) rfl rfl (by kernel_rfl) (by kernel_rfl) (by kernel_rfl) (fun _ _ _ h => h) (v := ?_) (Or.inl ⟨by rfl, ?_⟩) (by assumption) ?_
    rotate_left
    · (intro w hSw; (try dsimp only at hSw); go_simp; try with_reducible rfl)
    simp only [Act.put, List.setIfInBounds_toArray, List.set_cons_zero, List.set_cons_succ]
    refine take_dst 12 (some 28) rfl rfl (by kernel_rfl) (by kernel_rfl) (by kernel_rfl) (fun _ _ _ h => h) (v := ?_) (Or.inl ⟨by rfl, ?_⟩) (by assumption) ?_
    rotate_left
    · (intro w hSw; (try dsimp only at hSw); go_simp; try with_reducible rfl)
    simp only [Act.put, List.setIfInBounds_toArray, List.set_cons_zero, List.set_cons_succ]
    have HSd := hidden (H3.out.grown (grown_d w2))
    have hMd : w2.drew.heap[M]? = some (.cells #[.int .u8 (x.kind : Nat), .string (str x.tx), .int .i64 x.n, .int .i64 x.off, .bool x.col, .bool x.whole] 54 (0, 0)) := HM3.out
    clear H3 HM3 i3 i4 i5
    generalize w2.drew = Wd at *
    have HSA := hidden (HSd.out.grown (grownBy_alloc Wd (.cells #[.int .i64 (col + x.off), .bool fits, .bool x.whole] 120)))
    have hMA := (Below.heap_alloc Wd (.cells #[.int .i64 (col + x.off), .bool fits, .bool x.whole] 120) _ (Array.getElem?_eq_some_iff.1 hMd).1).trans hMd
    have kd5 : Wd.cell? ⟨M, 3, none⟩ = some (.int .i64 x.off) ∧ Wd.cell? ⟨M, 5, none⟩ = some (.bool x.whole) := ⟨by rw [cell_of hMd]; rfl, by rw [cell_of hMd]; rfl⟩
    have kA : (Wd.alloc (.cells #[.int .i64 (col + x.off), .bool fits, .bool x.whole] 120)).cell? ⟨M, 3, none⟩ = some (.int .i64 x.off) ∧ (Wd.alloc (.cells #[.int .i64 (col + x.off), .bool fits, .bool x.whole] 120)).cell? ⟨M, 5, none⟩ = some (.bool x.whole) := ⟨by rw [cell_of hMA]; rfl, by rw [cell_of hMA]; rfl⟩
    have hgrow : (Wd.alloc (.cells #[.int .i64 (col + x.off), .bool fits, .bool x.whole] 120)).ownsRow B 120 3 gv (gs.length + 1) (rowG (gs.reverse ++ [⟨fl, wh, ind⟩])) := by
      have h9 := HSA.out.grow
      rw [show (gs.reverse ++ [(⟨fl, wh, ind⟩ : Gr)]).length = gs.length + 1 by simp] at h9
      exact h9
    have d4 := HSd.out.c4
    have e4 := HSA.out.c4
    have KD := hidden kd5
    have KA := hidden kA
    clear kd5 kA
    refine wpAnyH_ready (rs := [4, 13]) (by kernel_rfl) (by simp) ?_
    refine AllReadyH.cons rfl (fun K hK => ?_) (AllReadyH.cons rfl (fun K hK => ?_) AllReadyH.nil)
    · go_simp
      refine hK.out _ _ KD.out (fun hHeld1 => ?_)
      clear hK K hHeld1 e4 d4
      refine wpAnyH_ready (rs := [13]) (by kernel_rfl) (by simp) ?_
      refine AllReadyH.cons rfl (fun K hK => ?_) AllReadyH.nil
      · go_simp
        refine hK.out _ _ KA.out (fun hHeld2 => ?_)
        clear hK K hHeld2 hHeld
        refine wpAnyH_ready (rs := [14]) (by kernel_rfl) (by simp) ?_
        refine AllReadyH.cons rfl (fun K hK => ?_) AllReadyH.nil
        refine step_append_wh rfl (.tmp 20) (.tmp 29) 86 rfl B 120 i78 (.agg #[.int .i64 0, .bool false, .bool false]) 3 16 Try.underlying86 hi78 hz78 hy78 hb78 rfl (by decide) gv (gs.length + 1) (rowG (gs.reverse ++ ([⟨fl, wh, ind⟩] : List Gr))) (by simp [Act.eval]) hgrow ⟨Wd.heap.size, 0, none⟩ 1 1 [.int .i64 (col + x.off), .bool fits, .bool x.whole] (by simp [Act.eval]) rfl (cells_new Wd 120 [.int .i64 (col + x.off), .bool fits, .bool x.whole]) (one3 _ _ _) (by unfold maxLen; omega) (by omega) HSA.out.sz (by decide) ?_
        intro v' w7 hr7 hg7 _
        obtain ⟨ua, uc, rfl⟩ := row_slice hr7.out
        have S8 := HSA.out.groups (G' := gs.reverse ++ [⟨fl, wh, ind⟩] ++ [⟨fits, x.whole, col + x.off⟩]) (by rw [show (gs.reverse ++ [(⟨fl, wh, ind⟩ : Gr)] ++ [(⟨fits, x.whole, col + x.off⟩ : Gr)]).length = gs.length + 1 + 1 by simp, rowG_app]; exact hr7.out) hg7.out
        have hK7 := (hg7.out.block KB HSA.out.lt (fun e => HSA.out.gown e.symm)).trans HSA.out.head
        have d3 : w7.cell? ⟨KB, 4, none⟩ = some gv := by rw [cell_of hK7]; rfl
        have f3 : w7.frozen? ⟨KB, 4, none⟩ = false := frozen_of_row w7 KB 4 _ 91 hK7
        have hM7 := (hg7.out.block M (Array.getElem?_eq_some_iff.1 hMA).1 (fun e => row_head HSA.out.grow hMA (by decide) e.symm)).trans hMA
        have k7 : w7.cell? ⟨M, 3, none⟩ = some (.int .i64 x.off) ∧ w7.cell? ⟨M, 5, none⟩ = some (.bool x.whole) := ⟨by rw [cell_of hM7]; rfl, by rw [cell_of hM7]; rfl⟩
        have hM8 := fun u => (set_other w7 KB 4 u M hMK).trans hM7
        have k8 : ∀ u, (w7.setCell ⟨KB, 4, none⟩ u).cell? ⟨M, 3, none⟩ = some (.int .i64 x.off) ∧ (w7.setCell ⟨KB, 4, none⟩ u).cell? ⟨M, 5, none⟩ = some (.bool x.whole) := fun u => ⟨by rw [cell_of (hM8 u)]; rfl, by rw [cell_of (hM8 u)]; rfl⟩
        have HS8 := hidden S8
        have K7 := hidden k7
        have K8 := hidden k8
        clear hr7 hg7 hK7 hM7 hM8 S8 k7 k8
        refine hK.out _ _ K7.out (fun hHeld3 => ?_)
        clear hK K
        refine take_dst 15 (some 31) rfl rfl (by kernel_rfl) (by kernel_rfl) (by kernel_rfl) (fun _ _ _ h => h) (v := ?_) (Or.inl ⟨by rfl, ?_⟩) (by assumption) ?_
        rotate_left
        · (intro w hSw; (try dsimp only at hSw); go_simp; try with_reducible rfl)
        simp only [Act.put, List.setIfInBounds_toArray]
        refine take_dst 16 (some 32) rfl rfl (by kernel_rfl) (by kernel_rfl) (by kernel_rfl) (fun _ _ _ h => h) (v := ?_) (Or.inl ⟨by rfl, ?_⟩) (by assumption) ?_
        rotate_left
        · (intro w hSw; (try dsimp only at hSw); go_simp; try with_reducible rfl)
        simp only [Act.put]
        refine wpAnyH_ready (rs := [17]) (by kernel_rfl) (by simp) ?_
        refine AllReadyH.cons rfl (fun K hK => ?_) AllReadyH.nil
        go_simp
        refine hK.out _ _ (K8.out _) (fun hHeld4 => ?_)
        clear hK K
        refine wpAnyH_done (by kernel_rfl) ?_ _
        clear hHeld3 hHeld4 d3 f3
        go_wp2_with fail
        go_end0
        have h8 : PR B KB w0 (w7.setCell ⟨KB, 4, none⟩ (.slice ua (gs.length + 1 + 1) uc)) p bv (.slice ua (gs.length + 1 + 1) uc) wd col q (((⟨fl, wh, ind⟩ : Gr) :: gs).reverse ++ [⟨fits, x.whole, (if x.col then col else ind) + x.off⟩]) := by
          rw [List.reverse_cons, HE0.out]
          exact HS8.out
        exact ⟨rfl, p, bv, _, h8⟩
    · go_simp
      refine hK.out _ _ KA.out (fun hHeld1 => ?_)
      clear hK K hHeld1 d4
      refine wpAnyH_ready (rs := [4]) (by kernel_rfl) (by simp) ?_
      refine AllReadyH.cons rfl (fun K hK => ?_) AllReadyH.nil
      · go_simp
        refine hK.out _ _ KA.out (fun hHeld2 => ?_)
        clear hK K hHeld2 hHeld e4
        refine wpAnyH_ready (rs := [14]) (by kernel_rfl) (by simp) ?_
        refine AllReadyH.cons rfl (fun K hK => ?_) AllReadyH.nil
        refine step_append_wh rfl (.tmp 20) (.tmp 29) 86 rfl B 120 i78 (.agg #[.int .i64 0, .bool false, .bool false]) 3 16 Try.underlying86 hi78 hz78 hy78 hb78 rfl (by decide) gv (gs.length + 1) (rowG (gs.reverse ++ ([⟨fl, wh, ind⟩] : List Gr))) (by simp [Act.eval]) hgrow ⟨Wd.heap.size, 0, none⟩ 1 1 [.int .i64 (col + x.off), .bool fits, .bool x.whole] (by simp [Act.eval]) rfl (cells_new Wd 120 [.int .i64 (col + x.off), .bool fits, .bool x.whole]) (one3 _ _ _) (by unfold maxLen; omega) (by omega) HSA.out.sz (by decide) ?_
        intro v' w7 hr7 hg7 _
        obtain ⟨ua, uc, rfl⟩ := row_slice hr7.out
        have S8 := HSA.out.groups (G' := gs.reverse ++ [⟨fl, wh, ind⟩] ++ [⟨fits, x.whole, col + x.off⟩]) (by rw [show (gs.reverse ++ [(⟨fl, wh, ind⟩ : Gr)] ++ [(⟨fits, x.whole, col + x.off⟩ : Gr)]).length = gs.length + 1 + 1 by simp, rowG_app]; exact hr7.out) hg7.out
        have hK7 := (hg7.out.block KB HSA.out.lt (fun e => HSA.out.gown e.symm)).trans HSA.out.head
        have d3 : w7.cell? ⟨KB, 4, none⟩ = some gv := by rw [cell_of hK7]; rfl
        have f3 : w7.frozen? ⟨KB, 4, none⟩ = false := frozen_of_row w7 KB 4 _ 91 hK7
        have hM7 := (hg7.out.block M (Array.getElem?_eq_some_iff.1 hMA).1 (fun e => row_head HSA.out.grow hMA (by decide) e.symm)).trans hMA
        have k7 : w7.cell? ⟨M, 3, none⟩ = some (.int .i64 x.off) ∧ w7.cell? ⟨M, 5, none⟩ = some (.bool x.whole) := ⟨by rw [cell_of hM7]; rfl, by rw [cell_of hM7]; rfl⟩
        have hM8 := fun u => (set_other w7 KB 4 u M hMK).trans hM7
        have k8 : ∀ u, (w7.setCell ⟨KB, 4, none⟩ u).cell? ⟨M, 3, none⟩ = some (.int .i64 x.off) ∧ (w7.setCell ⟨KB, 4, none⟩ u).cell? ⟨M, 5, none⟩ = some (.bool x.whole) := fun u => ⟨by rw [cell_of (hM8 u)]; rfl, by rw [cell_of (hM8 u)]; rfl⟩
        have HS8 := hidden S8
        have K7 := hidden k7
        have K8 := hidden k8
        clear hr7 hg7 hK7 hM7 hM8 S8 k7 k8
        refine hK.out _ _ K7.out (fun hHeld3 => ?_)
        clear hK K
        refine take_dst 15 (some 31) rfl rfl (by kernel_rfl) (by kernel_rfl) (by kernel_rfl) (fun _ _ _ h => h) (v := ?_) (Or.inl ⟨by rfl, ?_⟩) (by assumption) ?_
        rotate_left
        · (intro w hSw; (try dsimp only at hSw); go_simp; try with_reducible rfl)
        simp only [Act.put, List.setIfInBounds_toArray]
        refine take_dst 16 (some 32) rfl rfl (by kernel_rfl) (by kernel_rfl) (by kernel_rfl) (fun _ _ _ h => h) (v := ?_) (Or.inl ⟨by rfl, ?_⟩) (by assumption) ?_
        rotate_left
        · (intro w hSw; (try dsimp only at hSw); go_simp; try with_reducible rfl)
        simp only [Act.put]
        refine wpAnyH_ready (rs := [17]) (by kernel_rfl) (by simp) ?_
        refine AllReadyH.cons rfl (fun K hK => ?_) AllReadyH.nil
        go_simp
        refine hK.out _ _ (K8.out _) (fun hHeld4 => ?_)
        clear hK K
        refine wpAnyH_done (by kernel_rfl) ?_ _
        clear hHeld3 hHeld4 d3 f3
        go_wp2_with fail
        go_end0
        have h8 : PR B KB w0 (w7.setCell ⟨KB, 4, none⟩ (.slice ua (gs.length + 1 + 1) uc)) p bv (.slice ua (gs.length + 1 + 1) uc) wd col q (((⟨fl, wh, ind⟩ : Gr) :: gs).reverse ++ [⟨fits, x.whole, (if x.col then col else ind) + x.off⟩]) := by
          rw [List.reverse_cons, HE0.out]
          exact HS8.out
        exact ⟨rfl, p, bv, _, h8⟩
  | false =>
    have HE0 : Hid ((if x.col then col else ind) = ind) := by unfold Hid; rw [hxc]; rfl
    clear hxc
    go_wp2_with fail
    have wr0 : IntKind.i64.wrap (ind + x.off) = ind + x.off := IntWalk.i64_in _ (by omega)
    refine wp_region_held_drew (S := (fun u => u.cell? ⟨M, 3, none⟩ = some (.int .i64 x.off) ∧ u.cell? ⟨M, 5, none⟩ = some (.bool x.whole))) (by kernel_rfl) ⟨i3, i5⟩ (fun hHeld => ?_)
    refine take_dst 0 (some 16) rfl rfl (by kernel_rfl) (by kernel_rfl) (by kernel_rfl) (fun _ _ _ h => h) (v := ?_) (Or.inl ⟨by rfl, ?_⟩) (by assumption) ?_
    rotate_left
    · (intro w hSw; (try dsimp only at hSw); go_simp; try with_reducible rfl)
    simp only [Act.put, List.setIfInBounds_toArray, List.set_cons_zero, List.set_cons_succ]
    refine take_dst 1 (some 17) rfl rfl (by kernel_rfl) (by kernel_rfl) (by kernel_rfl) (fun _ _ _ h => h) (v := ?_) (Or.inl ⟨by rfl, ?_⟩) (by assumption) ?_
    rotate_left
    · (intro w hSw; (try dsimp only at hSw); go_simp; try with_reducible rfl)
    simp only [Act.put, List.setIfInBounds_toArray, List.set_cons_zero, List.set_cons_succ]
    refine take_dst 2 (some 18) rfl rfl (by kernel_rfl) (by kernel_rfl) (by kernel_rfl) (fun _ _ _ h => h) (v := ?_) (Or.inl ⟨by rfl, ?_⟩) (by assumption) ?_
    rotate_left
    · (intro w hSw; (try dsimp only at hSw); go_simp; try with_reducible rfl)
    simp only [Act.put, List.setIfInBounds_toArray, List.set_cons_zero, List.set_cons_succ]
    refine take_dst 3 (some 19) rfl rfl (by kernel_rfl) (by kernel_rfl) (by kernel_rfl) (fun _ _ _ h => h) (v := ?_) (Or.inl ⟨by rfl, ?_⟩) (by assumption) ?_
    rotate_left
    · (intro w hSw; (try dsimp only at hSw); go_simp; try with_reducible rfl)
    simp only [Act.put, List.setIfInBounds_toArray, List.set_cons_zero, List.set_cons_succ]
    refine take_dst 5 (some 21) rfl rfl (by kernel_rfl) (by kernel_rfl) (by kernel_rfl) (fun _ _ _ h => h) (v := ?_) (Or.inl ⟨by rfl, ?_⟩) (by assumption) ?_
    rotate_left
    · (intro w hSw; (try dsimp only at hSw); go_simp; try with_reducible rfl)
    simp only [Act.put, List.setIfInBounds_toArray, List.set_cons_zero, List.set_cons_succ]
    refine take_dst 6 (some 22) rfl rfl (by kernel_rfl) (by kernel_rfl) (by kernel_rfl) (fun _ _ _ h => h) (v := ?_) (Or.inl ⟨by rfl, ?_⟩) (by assumption) ?_
    rotate_left
    · (intro w hSw; (try dsimp only at hSw); go_simp; try with_reducible rfl)
    simp only [Act.put, List.setIfInBounds_toArray, List.set_cons_zero, List.set_cons_succ]
    refine take_dst 7 (some 23) rfl rfl (by kernel_rfl) (by kernel_rfl) (by kernel_rfl) (fun _ _ _ h => h) (v := ?_) (Or.inl ⟨by rfl, ?_⟩) (by assumption) ?_
    rotate_left
    · (intro w hSw; (try dsimp only at hSw); go_simp; try with_reducible rfl)
    simp only [Act.put, List.setIfInBounds_toArray, List.set_cons_zero, List.set_cons_succ]
    refine take_dst 8 (some 24) rfl rfl (by kernel_rfl) (by kernel_rfl) (by kernel_rfl) (fun _ _ _ h => h) (v := ?_) (Or.inl ⟨by rfl, ?_⟩) (by assumption) ?_
    rotate_left
    · (intro w hSw; (try dsimp only at hSw); go_simp; try with_reducible rfl)
    simp only [Act.put, List.setIfInBounds_toArray, List.set_cons_zero, List.set_cons_succ]
    refine take_dst 9 (some 25) rfl rfl (by kernel_rfl) (by kernel_rfl) (by kernel_rfl) (fun _ _ _ h => h) (v := ?_) (Or.inl ⟨by rfl, ?_⟩) (by assumption) ?_
    rotate_left
    · (intro w hSw; (try dsimp only at hSw); go_simp; try with_reducible rfl)
    simp only [Act.put, List.setIfInBounds_toArray, List.set_cons_zero, List.set_cons_succ]
    refine take_dst 10 (some 26) rfl rfl (by kernel_rfl) (by kernel_rfl) (by kernel_rfl) (fun _ _ _ h => h) (v := ?_) (Or.inl ⟨by rfl, ?_⟩) (by assumption) ?_
    rotate_left
    · (intro w hSw; (try dsimp only at hSw); go_simp; try with_reducible rfl)
    simp only [Act.put, List.setIfInBounds_toArray, List.set_cons_zero, List.set_cons_succ]
    refine take_dst 11 (some 27) rfl rfl (by kernel_rfl) (by kernel_rfl) (by kernel_rfl) (fun _ _ _ h => h) (v := ?_) (Or.inl ⟨by rfl, ?_⟩) (by assumption) ?_
    rotate_left
    · (intro w hSw; (try dsimp only at hSw); go_simp; try with_reducible rfl)
    simp only [Act.put, List.setIfInBounds_toArray, List.set_cons_zero, List.set_cons_succ]
    refine take_dst 12 (some 28) rfl rfl (by kernel_rfl) (by kernel_rfl) (by kernel_rfl) (fun _ _ _ h => h) (v := ?_) (Or.inl ⟨by rfl, ?_⟩) (by assumption) ?_
    rotate_left
    · (intro w hSw; (try dsimp only at hSw); go_simp; try with_reducible rfl)
    simp only [Act.put, List.setIfInBounds_toArray, List.set_cons_zero, List.set_cons_succ]
    have HSd := hidden (H3.out.grown (grown_d w2))
    have hMd : w2.drew.heap[M]? = some (.cells #[.int .u8 (x.kind : Nat), .string (str x.tx), .int .i64 x.n, .int .i64 x.off, .bool x.col, .bool x.whole] 54 (0, 0)) := HM3.out
    clear H3 HM3 i3 i4 i5
    generalize w2.drew = Wd at *
    have HSA := hidden (HSd.out.grown (grownBy_alloc Wd (.cells #[.int .i64 (ind + x.off), .bool fits, .bool x.whole] 120)))
    have hMA := (Below.heap_alloc Wd (.cells #[.int .i64 (ind + x.off), .bool fits, .bool x.whole] 120) _ (Array.getElem?_eq_some_iff.1 hMd).1).trans hMd
    have kd5 : Wd.cell? ⟨M, 3, none⟩ = some (.int .i64 x.off) ∧ Wd.cell? ⟨M, 5, none⟩ = some (.bool x.whole) := ⟨by rw [cell_of hMd]; rfl, by rw [cell_of hMd]; rfl⟩
    have kA : (Wd.alloc (.cells #[.int .i64 (ind + x.off), .bool fits, .bool x.whole] 120)).cell? ⟨M, 3, none⟩ = some (.int .i64 x.off) ∧ (Wd.alloc (.cells #[.int .i64 (ind + x.off), .bool fits, .bool x.whole] 120)).cell? ⟨M, 5, none⟩ = some (.bool x.whole) := ⟨by rw [cell_of hMA]; rfl, by rw [cell_of hMA]; rfl⟩
    have hgrow : (Wd.alloc (.cells #[.int .i64 (ind + x.off), .bool fits, .bool x.whole] 120)).ownsRow B 120 3 gv (gs.length + 1) (rowG (gs.reverse ++ [⟨fl, wh, ind⟩])) := by
      have h9 := HSA.out.grow
      rw [show (gs.reverse ++ [(⟨fl, wh, ind⟩ : Gr)]).length = gs.length + 1 by simp] at h9
      exact h9
    have d4 := HSd.out.c4
    have e4 := HSA.out.c4
    have KD := hidden kd5
    have KA := hidden kA
    clear kd5 kA
    refine wpAnyH_ready (rs := [4, 13]) (by kernel_rfl) (by simp) ?_
    refine AllReadyH.cons rfl (fun K hK => ?_) (AllReadyH.cons rfl (fun K hK => ?_) AllReadyH.nil)
    · go_simp
      refine hK.out _ _ KD.out (fun hHeld1 => ?_)
      clear hK K hHeld1 e4 d4
      refine wpAnyH_ready (rs := [13]) (by kernel_rfl) (by simp) ?_
      refine AllReadyH.cons rfl (fun K hK => ?_) AllReadyH.nil
      · go_simp
        refine hK.out _ _ KA.out (fun hHeld2 => ?_)
        clear hK K hHeld2 hHeld
        refine wpAnyH_ready (rs := [14]) (by kernel_rfl) (by simp) ?_
        refine AllReadyH.cons rfl (fun K hK => ?_) AllReadyH.nil
        refine step_append_wh rfl (.tmp 20) (.tmp 29) 86 rfl B 120 i78 (.agg #[.int .i64 0, .bool false, .bool false]) 3 16 Try.underlying86 hi78 hz78 hy78 hb78 rfl (by decide) gv (gs.length + 1) (rowG (gs.reverse ++ ([⟨fl, wh, ind⟩] : List Gr))) (by simp [Act.eval]) hgrow ⟨Wd.heap.size, 0, none⟩ 1 1 [.int .i64 (ind + x.off), .bool fits, .bool x.whole] (by simp [Act.eval]) rfl (cells_new Wd 120 [.int .i64 (ind + x.off), .bool fits, .bool x.whole]) (one3 _ _ _) (by unfold maxLen; omega) (by omega) HSA.out.sz (by decide) ?_
        intro v' w7 hr7 hg7 _
        obtain ⟨ua, uc, rfl⟩ := row_slice hr7.out
        have S8 := HSA.out.groups (G' := gs.reverse ++ [⟨fl, wh, ind⟩] ++ [⟨fits, x.whole, ind + x.off⟩]) (by rw [show (gs.reverse ++ [(⟨fl, wh, ind⟩ : Gr)] ++ [(⟨fits, x.whole, ind + x.off⟩ : Gr)]).length = gs.length + 1 + 1 by simp, rowG_app]; exact hr7.out) hg7.out
        have hK7 := (hg7.out.block KB HSA.out.lt (fun e => HSA.out.gown e.symm)).trans HSA.out.head
        have d3 : w7.cell? ⟨KB, 4, none⟩ = some gv := by rw [cell_of hK7]; rfl
        have f3 : w7.frozen? ⟨KB, 4, none⟩ = false := frozen_of_row w7 KB 4 _ 91 hK7
        have hM7 := (hg7.out.block M (Array.getElem?_eq_some_iff.1 hMA).1 (fun e => row_head HSA.out.grow hMA (by decide) e.symm)).trans hMA
        have k7 : w7.cell? ⟨M, 3, none⟩ = some (.int .i64 x.off) ∧ w7.cell? ⟨M, 5, none⟩ = some (.bool x.whole) := ⟨by rw [cell_of hM7]; rfl, by rw [cell_of hM7]; rfl⟩
        have hM8 := fun u => (set_other w7 KB 4 u M hMK).trans hM7
        have k8 : ∀ u, (w7.setCell ⟨KB, 4, none⟩ u).cell? ⟨M, 3, none⟩ = some (.int .i64 x.off) ∧ (w7.setCell ⟨KB, 4, none⟩ u).cell? ⟨M, 5, none⟩ = some (.bool x.whole) := fun u => ⟨by rw [cell_of (hM8 u)]; rfl, by rw [cell_of (hM8 u)]; rfl⟩
        have HS8 := hidden S8
        have K7 := hidden k7
        have K8 := hidden k8
        clear hr7 hg7 hK7 hM7 hM8 S8 k7 k8
        refine hK.out _ _ K7.out (fun hHeld3 => ?_)
        clear hK K
        refine take_dst 15 (some 31) rfl rfl (by kernel_rfl) (by kernel_rfl) (by kernel_rfl) (fun _ _ _ h => h) (v := ?_) (Or.inl ⟨by rfl, ?_⟩) (by assumption) ?_
        rotate_left
        · (intro w hSw; (try dsimp only at hSw); go_simp; try with_reducible rfl)
        simp only [Act.put, List.setIfInBounds_toArray]
        refine take_dst 16 (some 32) rfl rfl (by kernel_rfl) (by kernel_rfl) (by kernel_rfl) (fun _ _ _ h => h) (v := ?_) (Or.inl ⟨by rfl, ?_⟩) (by assumption) ?_
        rotate_left
        · (intro w hSw; (try dsimp only at hSw); go_simp; try with_reducible rfl)
        simp only [Act.put]
        refine wpAnyH_ready (rs := [17]) (by kernel_rfl) (by simp) ?_
        refine AllReadyH.cons rfl (fun K hK => ?_) AllReadyH.nil
        go_simp
        refine hK.out _ _ (K8.out _) (fun hHeld4 => ?_)
        clear hK K
        refine wpAnyH_done (by kernel_rfl) ?_ _
        clear hHeld3 hHeld4 d3 f3
        go_wp2_with fail
        go_end0
        have h8 : PR B KB w0 (w7.setCell ⟨KB, 4, none⟩ (.slice ua (gs.length + 1 + 1) uc)) p bv (.slice ua (gs.length + 1 + 1) uc) wd col q (((⟨fl, wh, ind⟩ : Gr) :: gs).reverse ++ [⟨fits, x.whole, (if x.col then col else ind) + x.off⟩]) := by
          rw [List.reverse_cons, HE0.out]
          exact HS8.out
        exact ⟨rfl, p, bv, _, h8⟩
    · go_simp
      refine hK.out _ _ KA.out (fun hHeld1 => ?_)
      clear hK K hHeld1 d4
      refine wpAnyH_ready (rs := [4]) (by kernel_rfl) (by simp) ?_
      refine AllReadyH.cons rfl (fun K hK => ?_) AllReadyH.nil
      · go_simp
        refine hK.out _ _ KA.out (fun hHeld2 => ?_)
        clear hK K hHeld2 hHeld e4
        refine wpAnyH_ready (rs := [14]) (by kernel_rfl) (by simp) ?_
        refine AllReadyH.cons rfl (fun K hK => ?_) AllReadyH.nil
        refine step_append_wh rfl (.tmp 20) (.tmp 29) 86 rfl B 120 i78 (.agg #[.int .i64 0, .bool false, .bool false]) 3 16 Try.underlying86 hi78 hz78 hy78 hb78 rfl (by decide) gv (gs.length + 1) (rowG (gs.reverse ++ ([⟨fl, wh, ind⟩] : List Gr))) (by simp [Act.eval]) hgrow ⟨Wd.heap.size, 0, none⟩ 1 1 [.int .i64 (ind + x.off), .bool fits, .bool x.whole] (by simp [Act.eval]) rfl (cells_new Wd 120 [.int .i64 (ind + x.off), .bool fits, .bool x.whole]) (one3 _ _ _) (by unfold maxLen; omega) (by omega) HSA.out.sz (by decide) ?_
        intro v' w7 hr7 hg7 _
        obtain ⟨ua, uc, rfl⟩ := row_slice hr7.out
        have S8 := HSA.out.groups (G' := gs.reverse ++ [⟨fl, wh, ind⟩] ++ [⟨fits, x.whole, ind + x.off⟩]) (by rw [show (gs.reverse ++ [(⟨fl, wh, ind⟩ : Gr)] ++ [(⟨fits, x.whole, ind + x.off⟩ : Gr)]).length = gs.length + 1 + 1 by simp, rowG_app]; exact hr7.out) hg7.out
        have hK7 := (hg7.out.block KB HSA.out.lt (fun e => HSA.out.gown e.symm)).trans HSA.out.head
        have d3 : w7.cell? ⟨KB, 4, none⟩ = some gv := by rw [cell_of hK7]; rfl
        have f3 : w7.frozen? ⟨KB, 4, none⟩ = false := frozen_of_row w7 KB 4 _ 91 hK7
        have hM7 := (hg7.out.block M (Array.getElem?_eq_some_iff.1 hMA).1 (fun e => row_head HSA.out.grow hMA (by decide) e.symm)).trans hMA
        have k7 : w7.cell? ⟨M, 3, none⟩ = some (.int .i64 x.off) ∧ w7.cell? ⟨M, 5, none⟩ = some (.bool x.whole) := ⟨by rw [cell_of hM7]; rfl, by rw [cell_of hM7]; rfl⟩
        have hM8 := fun u => (set_other w7 KB 4 u M hMK).trans hM7
        have k8 : ∀ u, (w7.setCell ⟨KB, 4, none⟩ u).cell? ⟨M, 3, none⟩ = some (.int .i64 x.off) ∧ (w7.setCell ⟨KB, 4, none⟩ u).cell? ⟨M, 5, none⟩ = some (.bool x.whole) := fun u => ⟨by rw [cell_of (hM8 u)]; rfl, by rw [cell_of (hM8 u)]; rfl⟩
        have HS8 := hidden S8
        have K7 := hidden k7
        have K8 := hidden k8
        clear hr7 hg7 hK7 hM7 hM8 S8 k7 k8
        refine hK.out _ _ K7.out (fun hHeld3 => ?_)
        clear hK K
        refine take_dst 15 (some 31) rfl rfl (by kernel_rfl) (by kernel_rfl) (by kernel_rfl) (fun _ _ _ h => h) (v := ?_) (Or.inl ⟨by rfl, ?_⟩) (by assumption) ?_
        rotate_left
        · (intro w hSw; (try dsimp only at hSw); go_simp; try with_reducible rfl)
        simp only [Act.put, List.setIfInBounds_toArray]
        refine take_dst 16 (some 32) rfl rfl (by kernel_rfl) (by kernel_rfl) (by kernel_rfl) (fun _ _ _ h => h) (v := ?_) (Or.inl ⟨by rfl, ?_⟩) (by assumption) ?_
        rotate_left
        · (intro w hSw; (try dsimp only at hSw); go_simp; try with_reducible rfl)
        simp only [Act.put]
        refine wpAnyH_ready (rs := [17]) (by kernel_rfl) (by simp) ?_
        refine AllReadyH.cons rfl (fun K hK => ?_) AllReadyH.nil
        go_simp
        refine hK.out _ _ (K8.out _) (fun hHeld4 => ?_)
        clear hK K
        refine wpAnyH_done (by kernel_rfl) ?_ _
        clear hHeld3 hHeld4 d3 f3
        go_wp2_with fail
        go_end0
        have h8 : PR B KB w0 (w7.setCell ⟨KB, 4, none⟩ (.slice ua (gs.length + 1 + 1) uc)) p bv (.slice ua (gs.length + 1 + 1) uc) wd col q (((⟨fl, wh, ind⟩ : Gr) :: gs).reverse ++ [⟨fits, x.whole, (if x.col then col else ind) + x.off⟩]) := by
          rw [List.reverse_cons, HE0.out]
          exact HS8.out
        exact ⟨rfl, p, bv, _, h8⟩
end Go.Proofs.PlatenLayout

/- What item of the printer comes to. -/
namespace Go.Proofs.PlatenLayout
open Go Go.RowKit Go.Shelf
set_option linter.unusedVariables false
set_option maxRecDepth 100000

/-- An item printed as the program prints it: no more than so many spaces at once. -/
def itemS (wd : Int) (s : Ly) (x : It) (sz : Nat) : Ly :=
  if x.kind = 1 then { s with p := s.p ++ x.tx, col := s.col + (sz : Nat) }
  else if x.kind = 2 then gapS s x (decide ((sz : Int) ≤ wd - s.col))
  else if x.kind = 3 then begS s x (decide ((sz : Int) ≤ wd - s.col))
  else if x.kind = 4 then (match s.gs with | [] => s | h :: t => { s with g := h, gs := t })
  else s
set_option maxHeartbeats 4000000 in
theorem item_any {B KB : Nat} {w0 w : World} {wd : Int} {s : Ly} (h : PM B KB w0 wd s w) (x : It) (ok : OkIt x) (sz : Nat) (hsz : sz ≤ 2000000000) (hc : 0 ≤ s.col ∧ s.col ≤ 1000000) (hlen : s.p.length ≤ 400000) (hg : s.gs.length ≤ 1500) (hi : -1100000000000 ≤ s.g.ind ∧ s.g.ind ≤ 1100000000000) :
    Calls Try.prog 49 #[.pointer (some ⟨KB, 0, none⟩), .agg #[.int .u8 (x.kind : Nat), .string (str x.tx), .int .i64 x.n, .int .i64 x.off, .bool x.col, .bool x.whole], .int .i64 (sz : Nat)] w fun e w' => e = .returned (.tuple #[]) ∧ PM B KB w0 wd (itemS wd s x sz) w' := by
  have h1 : PM B KB w0 wd s (w.alloc (.cells #[.int .u8 (x.kind : Nat), .string (str x.tx), .int .i64 x.n, .int .i64 x.off, .bool x.col, .bool x.whole] 54)) := by
    obtain ⟨p, bv, gv, h⟩ := h
    exact ⟨p, bv, gv, h.grown (grownBy_alloc w _)⟩
  have hM : (w.alloc (.cells #[.int .u8 (x.kind : Nat), .string (str x.tx), .int .i64 x.n, .int .i64 x.off, .bool x.col, .bool x.whole] 54)).heap[w.heap.size]? = some (.cells #[.int .u8 (x.kind : Nat), .string (str x.tx), .int .i64 x.n, .int .i64 x.off, .bool x.col, .bool x.whole] 54 (0, 0)) := heap_alloc_new _ _
  have hMK : w.heap.size ≠ KB := by
    obtain ⟨p, bv, gv, h⟩ := h
    have := h.lt
    omega
  clear h
  have i0 := cell_of hM 0
  have i1 := cell_of hM 1
  simp only [List.getElem?_toArray, List.getElem?_cons_zero, List.getElem?_cons_succ] at i0 i1
  by_cases k1 : x.kind = 1
  · have z1 : ((x.kind : Int) == 1) = true := by simp; omega
    have HG : Hid (itemS wd s x sz = { s with p := s.p ++ x.tx, col := s.col + (sz : Nat) }) := by unfold Hid itemS; simp [k1]
    obtain ⟨p, bv, gv, h1⟩ := h1
    have cw := writeS_any (h1.grown (grown_d _)) x.tx ok.tx (by have := ok.len; omega)
    clear h1 ok k1
    go_enter Try.func49, Try.ntmps49
    go_wp2_with fail
    refine wp_region_held_drew (S := (fun u => u.cell? ⟨w.heap.size, 1, none⟩ = some (.string (str x.tx)))) (by kernel_rfl) i1 (fun hHeld => ?_)
    refine take_dst 0 (some 11) rfl rfl (by kernel_rfl) (by kernel_rfl) (by kernel_rfl) (fun _ _ _ h => h) (v := ?_) (Or.inl ⟨by rfl, ?_⟩) (by assumption) ?_
    rotate_left
    · (intro w hSw; (try dsimp only at hSw); go_simp; try with_reducible rfl)
    simp only [Act.put, List.setIfInBounds_toArray, List.set_cons_zero, List.set_cons_succ]
    refine take_dst 1 (some 12) rfl rfl (by kernel_rfl) (by kernel_rfl) (by kernel_rfl) (fun _ _ _ h => h) (v := ?_) (Or.inl ⟨by rfl, ?_⟩) (by assumption) ?_
    rotate_left
    · (intro w hSw; (try dsimp only at hSw); go_simp; try with_reducible rfl)
    simp only [Act.put, List.setIfInBounds_toArray, List.set_cons_zero, List.set_cons_succ]
    refine take_dst 2 (some 13) rfl rfl (by kernel_rfl) (by kernel_rfl) (by kernel_rfl) (fun _ _ _ h => h) (v := ?_) (Or.inl ⟨by rfl, ?_⟩) (by assumption) ?_
    rotate_left
    · (intro w hSw; (try dsimp only at hSw); go_simp; try with_reducible rfl)
    simp only [Act.put, List.setIfInBounds_toArray, List.set_cons_zero, List.set_cons_succ]
    refine take_dst 3 (some 14) rfl rfl (by kernel_rfl) (by kernel_rfl) (by kernel_rfl) (fun _ _ _ h => h) (v := ?_) (Or.inl ⟨by rfl, ?_⟩) (by assumption) ?_
    rotate_left
    · (intro w hSw; (try dsimp only at hSw); go_simp; try with_reducible rfl)
    simp only [Act.put, List.setIfInBounds_toArray, List.set_cons_zero, List.set_cons_succ]
    refine take_dst 4 (some 15) rfl rfl (by kernel_rfl) (by kernel_rfl) (by kernel_rfl) (fun _ _ _ h => h) (v := ?_) (Or.inl ⟨by rfl, ?_⟩) (by assumption) ?_
    rotate_left
    · (intro w hSw; (try dsimp only at hSw); go_simp; try with_reducible rfl)
    simp only [Act.put, List.setIfInBounds_toArray, List.set_cons_zero, List.set_cons_succ]
    refine wpAnyH_ready (rs := [5]) (by kernel_rfl) (by simp) ?_
    refine AllReadyH.cons rfl (fun K hK => ?_) AllReadyH.nil
    go_simp
    refine cw.mono ?_
    rintro e w3 ⟨rfl, ⟨p', bv', h3⟩, hk3⟩
    have j1 := cell_of (hk3 _ _ 54 hM hMK (by decide)) 1
    simp only [List.getElem?_toArray, List.getElem?_cons_zero, List.getElem?_cons_succ] at j1
    have c3 := h3.c3
    have f3 := h3.free 3
    have H4 := hidden (h3.column (s.col + (sz : Nat)))
    refine hK.out _ _ j1 (fun hHeld1 => ?_)
    clear hK K cw h3 hk3 hM j1 hHeld hHeld1
    refine wpAnyH_done (by kernel_rfl) ?_ _
    go_wp2_with fail
    go_end0
    rw [HG.out]
    exact ⟨rfl, _, _, _, H4.out⟩
  have z1 : ((x.kind : Int) == 1) = false := by simp; omega
  by_cases k2 : x.kind = 2
  · have z2 : ((x.kind : Int) == 2) = true := by simp; omega
    have HG : Hid (itemS wd s x sz = gapS s x (decide ((sz : Int) ≤ wd - s.col))) := by unfold Hid itemS; simp [k2]
    have hA : ∀ u : World, u.heap[w.heap.size]? = some (.cells #[.int .u8 (x.kind : Nat), .string (str x.tx), .int .i64 x.n, .int .i64 x.off, .bool x.col, .bool x.whole] 54 (0, 0)) → u.cell? ⟨w.heap.size, 0, none⟩ = some (.int .u8 (x.kind : Nat)) ∧ u.cell? ⟨w.heap.size, 1, none⟩ = some (.string (str x.tx)) ∧ u.cell? ⟨w.heap.size, 2, none⟩ = some (.int .i64 x.n) ∧ u.cell? ⟨w.heap.size, 3, none⟩ = some (.int .i64 x.off) ∧ u.cell? ⟨w.heap.size, 4, none⟩ = some (.bool x.col) ∧ u.cell? ⟨w.heap.size, 5, none⟩ = some (.bool x.whole) := fun u hu => ⟨by rw [cell_of hu]; rfl, by rw [cell_of hu]; rfl, by rw [cell_of hu]; rfl, by rw [cell_of hu]; rfl, by rw [cell_of hu]; rfl, by rw [cell_of hu]; rfl⟩
    have hA1 := hA _ (show (w.alloc (.cells #[.int .u8 (x.kind : Nat), .string (str x.tx), .int .i64 x.n, .int .i64 x.off, .bool x.col, .bool x.whole] 54)).drew.heap[w.heap.size]? = _ from hM)
    obtain ⟨p, bv, gv, h1⟩ := h1
    have cf := fits_any (h1.grown (grown_d _)) sz hsz hc
    have HA1 := hidden hA1
    have hMl : w.heap.size < (w.alloc (.cells #[.int .u8 (x.kind : Nat), .string (str x.tx), .int .i64 x.n, .int .i64 x.off, .bool x.col, .bool x.whole] 54)).drew.heap.size := by show w.heap.size < (w.alloc (.cells #[.int .u8 (x.kind : Nat), .string (str x.tx), .int .i64 x.n, .int .i64 x.off, .bool x.col, .bool x.whole] 54)).heap.size; simp
    have HOk := hidden ok
    generalize decide ((sz : Int) ≤ wd - s.col) = fits at *
    clear h1 ok k2 hA1
    go_enter Try.func49, Try.ntmps49
    go_wp2_with fail
    refine wp_region_held_drew (S := (fun u => True)) (by kernel_rfl) trivial (fun hHeld => ?_)
    refine take_dst 0 (some 27) rfl rfl (by kernel_rfl) (by kernel_rfl) (by kernel_rfl) (fun _ _ _ h => h) (v := ?_) (Or.inl ⟨by rfl, ?_⟩) (by assumption) ?_
    rotate_left
    · (intro w hSw; (try dsimp only at hSw); go_simp; try with_reducible rfl)
    simp only [Act.put, List.setIfInBounds_toArray, List.set_cons_zero, List.set_cons_succ]
    refine take_dst 2 (some 29) rfl rfl (by kernel_rfl) (by kernel_rfl) (by kernel_rfl) (fun _ _ _ h => h) (v := ?_) (Or.inl ⟨by rfl, ?_⟩) (by assumption) ?_
    rotate_left
    · (intro w hSw; (try dsimp only at hSw); go_simp; try with_reducible rfl)
    simp only [Act.put, List.setIfInBounds_toArray, List.set_cons_zero, List.set_cons_succ]
    refine take_dst 3 (some 30) rfl rfl (by kernel_rfl) (by kernel_rfl) (by kernel_rfl) (fun _ _ _ h => h) (v := ?_) (Or.inl ⟨by rfl, ?_⟩) (by assumption) ?_
    rotate_left
    · (intro w hSw; (try dsimp only at hSw); go_simp; try with_reducible rfl)
    simp only [Act.put, List.setIfInBounds_toArray, List.set_cons_zero, List.set_cons_succ]
    obtain ⟨j0, j1, j2, j3, j4, j5⟩ := HA1.out
    have hMd : (w.alloc (.cells #[.int .u8 (x.kind : Nat), .string (str x.tx), .int .i64 x.n, .int .i64 x.off, .bool x.col, .bool x.whole] 54)).drew.heap[w.heap.size]? = some (.cells #[.int .u8 (x.kind : Nat), .string (str x.tx), .int .i64 x.n, .int .i64 x.off, .bool x.col, .bool x.whole] 54 (0, 0)) := hM
    clear hM i0 i1
    have HMd := hidden hMd
    clear hMd
    generalize (w.alloc (.cells #[.int .u8 (x.kind : Nat), .string (str x.tx), .int .i64 x.n, .int .i64 x.off, .bool x.col, .bool x.whole] 54)).drew = Wd at *
    refine wpAnyH_ready (rs := [1, 4]) (by kernel_rfl) (by simp) ?_
    refine AllReadyH.cons rfl (fun K hK => ?_) (AllReadyH.cons rfl (fun K hK => ?_) AllReadyH.nil)
    · go_simp
      refine hK.out _ _ trivial (fun hHeld1 => ?_)
      clear hK K j0 j1 j2 j3 j4 j5
      refine wpAnyH_ready (rs := [4]) (by kernel_rfl) (by simp) ?_
      refine AllReadyH.cons rfl (fun K hK => ?_) AllReadyH.nil
      go_simp
      refine cf.mono ?_
      rintro e w3 ⟨rfl, h3, hb3⟩
      have cg := gap_any (s := s) ⟨_, _, _, h3⟩ x HOk.out fits hc hlen hg hi
      refine hK.out _ _ trivial (fun hHeld2 => ?_)
      clear hK K h3 hb3 cf
      refine wpAnyH_ready (rs := [5]) (by kernel_rfl) (by simp) ?_
      refine AllReadyH.cons rfl (fun K hK => ?_) AllReadyH.nil
      go_simp
      refine cg.mono ?_
      rintro e w4 ⟨rfl, h4⟩
      have H4 := hidden h4
      refine hK.out _ _ trivial (fun hHeld3 => ?_)
      clear hK K cg h4
      refine wpAnyH_done (by kernel_rfl) ?_ _
      go_wp2_with fail
      go_end0
      rw [HG.out]
      exact ⟨rfl, H4.out⟩
    · go_simp
      refine cf.mono ?_
      rintro e w3 ⟨rfl, h3, hb3⟩
      have hM3 := (hb3.block _ (Array.getElem?_eq_some_iff.1 HMd.out).1).trans HMd.out
      obtain ⟨m0, m1, m2, m3, m4, m5⟩ := hA _ hM3
      have cg := gap_any (s := s) ⟨_, _, _, h3⟩ x HOk.out fits hc hlen hg hi
      refine hK.out _ _ trivial (fun hHeld2 => ?_)
      clear hK K h3 hb3 cf hM3 hA j0 j1 j2 j3 j4 j5
      refine wpAnyH_ready (rs := [1]) (by kernel_rfl) (by simp) ?_
      refine AllReadyH.cons rfl (fun K hK => ?_) AllReadyH.nil
      go_simp
      refine hK.out _ _ trivial (fun hHeld1 => ?_)
      clear hK K m0 m1 m2 m3 m4 m5
      refine wpAnyH_ready (rs := [5]) (by kernel_rfl) (by simp) ?_
      refine AllReadyH.cons rfl (fun K hK => ?_) AllReadyH.nil
      go_simp
      refine cg.mono ?_
      rintro e w4 ⟨rfl, h4⟩
      have H4 := hidden h4
      refine hK.out _ _ trivial (fun hHeld3 => ?_)
      clear hK K cg h4
      refine wpAnyH_done (by kernel_rfl) ?_ _
      go_wp2_with fail
      go_end0
      rw [HG.out]
      exact ⟨rfl, H4.out⟩
  have z2 : ((x.kind : Int) == 2) = false := by simp; omega
  by_cases k3 : x.kind = 3
  · have z3 : ((x.kind : Int) == 3) = true := by simp; omega
    have HG : Hid (itemS wd s x sz = begS s x (decide ((sz : Int) ≤ wd - s.col))) := by unfold Hid itemS; simp [k3]
    have hA : ∀ u : World, u.heap[w.heap.size]? = some (.cells #[.int .u8 (x.kind : Nat), .string (str x.tx), .int .i64 x.n, .int .i64 x.off, .bool x.col, .bool x.whole] 54 (0, 0)) → u.cell? ⟨w.heap.size, 0, none⟩ = some (.int .u8 (x.kind : Nat)) ∧ u.cell? ⟨w.heap.size, 1, none⟩ = some (.string (str x.tx)) ∧ u.cell? ⟨w.heap.size, 2, none⟩ = some (.int .i64 x.n) ∧ u.cell? ⟨w.heap.size, 3, none⟩ = some (.int .i64 x.off) ∧ u.cell? ⟨w.heap.size, 4, none⟩ = some (.bool x.col) ∧ u.cell? ⟨w.heap.size, 5, none⟩ = some (.bool x.whole) := fun u hu => ⟨by rw [cell_of hu]; rfl, by rw [cell_of hu]; rfl, by rw [cell_of hu]; rfl, by rw [cell_of hu]; rfl, by rw [cell_of hu]; rfl, by rw [cell_of hu]; rfl⟩
    have hA1 := hA _ (show (w.alloc (.cells #[.int .u8 (x.kind : Nat), .string (str x.tx), .int .i64 x.n, .int .i64 x.off, .bool x.col, .bool x.whole] 54)).drew.heap[w.heap.size]? = _ from hM)
    obtain ⟨p, bv, gv, h1⟩ := h1
    have cf := fits_any (h1.grown (grown_d _)) sz hsz hc
    have HA1 := hidden hA1
    have hMl : w.heap.size < (w.alloc (.cells #[.int .u8 (x.kind : Nat), .string (str x.tx), .int .i64 x.n, .int .i64 x.off, .bool x.col, .bool x.whole] 54)).drew.heap.size := by show w.heap.size < (w.alloc (.cells #[.int .u8 (x.kind : Nat), .string (str x.tx), .int .i64 x.n, .int .i64 x.off, .bool x.col, .bool x.whole] 54)).heap.size; simp
    have HOk := hidden ok
    generalize decide ((sz : Int) ≤ wd - s.col) = fits at *
    clear h1 ok k3 hA1
    go_enter Try.func49, Try.ntmps49
    go_wp2_with fail
    refine wp_region_held_drew (S := (fun u => True)) (by kernel_rfl) trivial (fun hHeld => ?_)
    refine take_dst 0 (some 35) rfl rfl (by kernel_rfl) (by kernel_rfl) (by kernel_rfl) (fun _ _ _ h => h) (v := ?_) (Or.inl ⟨by rfl, ?_⟩) (by assumption) ?_
    rotate_left
    · (intro w hSw; (try dsimp only at hSw); go_simp; try with_reducible rfl)
    simp only [Act.put, List.setIfInBounds_toArray, List.set_cons_zero, List.set_cons_succ]
    refine take_dst 2 (some 37) rfl rfl (by kernel_rfl) (by kernel_rfl) (by kernel_rfl) (fun _ _ _ h => h) (v := ?_) (Or.inl ⟨by rfl, ?_⟩) (by assumption) ?_
    rotate_left
    · (intro w hSw; (try dsimp only at hSw); go_simp; try with_reducible rfl)
    simp only [Act.put, List.setIfInBounds_toArray, List.set_cons_zero, List.set_cons_succ]
    refine take_dst 3 (some 38) rfl rfl (by kernel_rfl) (by kernel_rfl) (by kernel_rfl) (fun _ _ _ h => h) (v := ?_) (Or.inl ⟨by rfl, ?_⟩) (by assumption) ?_
    rotate_left
    · (intro w hSw; (try dsimp only at hSw); go_simp; try with_reducible rfl)
    simp only [Act.put, List.setIfInBounds_toArray, List.set_cons_zero, List.set_cons_succ]
    obtain ⟨j0, j1, j2, j3, j4, j5⟩ := HA1.out
    have hMd : (w.alloc (.cells #[.int .u8 (x.kind : Nat), .string (str x.tx), .int .i64 x.n, .int .i64 x.off, .bool x.col, .bool x.whole] 54)).drew.heap[w.heap.size]? = some (.cells #[.int .u8 (x.kind : Nat), .string (str x.tx), .int .i64 x.n, .int .i64 x.off, .bool x.col, .bool x.whole] 54 (0, 0)) := hM
    clear hM i0 i1
    have HMd := hidden hMd
    clear hMd
    generalize (w.alloc (.cells #[.int .u8 (x.kind : Nat), .string (str x.tx), .int .i64 x.n, .int .i64 x.off, .bool x.col, .bool x.whole] 54)).drew = Wd at *
    refine wpAnyH_ready (rs := [1, 4]) (by kernel_rfl) (by simp) ?_
    refine AllReadyH.cons rfl (fun K hK => ?_) (AllReadyH.cons rfl (fun K hK => ?_) AllReadyH.nil)
    · go_simp
      refine hK.out _ _ trivial (fun hHeld1 => ?_)
      clear hK K j0 j1 j2 j3 j4 j5
      refine wpAnyH_ready (rs := [4]) (by kernel_rfl) (by simp) ?_
      refine AllReadyH.cons rfl (fun K hK => ?_) AllReadyH.nil
      go_simp
      refine cf.mono ?_
      rintro e w3 ⟨rfl, h3, hb3⟩
      have cg := begin_any (s := s) ⟨_, _, _, h3⟩ x HOk.out fits hc hg hi
      refine hK.out _ _ trivial (fun hHeld2 => ?_)
      clear hK K h3 hb3 cf
      refine wpAnyH_ready (rs := [5]) (by kernel_rfl) (by simp) ?_
      refine AllReadyH.cons rfl (fun K hK => ?_) AllReadyH.nil
      go_simp
      refine cg.mono ?_
      rintro e w4 ⟨rfl, h4⟩
      have H4 := hidden h4
      refine hK.out _ _ trivial (fun hHeld3 => ?_)
      clear hK K cg h4
      refine wpAnyH_done (by kernel_rfl) ?_ _
      go_wp2_with fail
      go_end0
      rw [HG.out]
      exact ⟨rfl, H4.out⟩
    · go_simp
      refine cf.mono ?_
      rintro e w3 ⟨rfl, h3, hb3⟩
      have hM3 := (hb3.block _ (Array.getElem?_eq_some_iff.1 HMd.out).1).trans HMd.out
      obtain ⟨m0, m1, m2, m3, m4, m5⟩ := hA _ hM3
      have cg := begin_any (s := s) ⟨_, _, _, h3⟩ x HOk.out fits hc hg hi
      refine hK.out _ _ trivial (fun hHeld2 => ?_)
      clear hK K h3 hb3 cf hM3 hA j0 j1 j2 j3 j4 j5
      refine wpAnyH_ready (rs := [1]) (by kernel_rfl) (by simp) ?_
      refine AllReadyH.cons rfl (fun K hK => ?_) AllReadyH.nil
      go_simp
      refine hK.out _ _ trivial (fun hHeld1 => ?_)
      clear hK K m0 m1 m2 m3 m4 m5
      refine wpAnyH_ready (rs := [5]) (by kernel_rfl) (by simp) ?_
      refine AllReadyH.cons rfl (fun K hK => ?_) AllReadyH.nil
      go_simp
      refine cg.mono ?_
      rintro e w4 ⟨rfl, h4⟩
      have H4 := hidden h4
      refine hK.out _ _ trivial (fun hHeld3 => ?_)
      clear hK K cg h4
      refine wpAnyH_done (by kernel_rfl) ?_ _
      go_wp2_with fail
      go_end0
      rw [HG.out]
      exact ⟨rfl, H4.out⟩
  have z3 : ((x.kind : Int) == 3) = false := by simp; omega
  by_cases k4 : x.kind = 4
  · have z4 : ((x.kind : Int) == 4) = true := by simp; omega
    obtain ⟨q, col, g, gs⟩ := s
    cases gs with
    | nil =>
      have HG : Hid (itemS wd ⟨q, col, g, []⟩ x sz = ⟨q, col, g, []⟩) := by unfold Hid itemS; simp [k4]
      have H1 := hidden h1
      obtain ⟨p, bv, gv, h1⟩ := h1
      obtain ⟨va, vc, rfl⟩ := row_slice h1.grow
      have c4 : (w.alloc (.cells #[.int .u8 (x.kind : Nat), .string (str x.tx), .int .i64 x.n, .int .i64 x.off, .bool x.col, .bool x.whole] 54)).cell? ⟨KB, 4, none⟩ = some (.slice va 1 vc) := h1.c4
      clear h1 hM ok k4
      go_enter Try.func49, Try.ntmps49
      go_wp2_with fail
      go_end0
      rw [HG.out]
      exact ⟨rfl, H1.out⟩
    | cons g1 gs =>
      have HG : Hid (itemS wd ⟨q, col, g, g1 :: gs⟩ x sz = ⟨q, col, g1, gs⟩) := by unfold Hid itemS; simp [k4]
      obtain ⟨p, bv, gv, h1⟩ := h1
      have h1 : PR B KB w0 (w.alloc (.cells #[.int .u8 (x.kind : Nat), .string (str x.tx), .int .i64 x.n, .int .i64 x.off, .bool x.col, .bool x.whole] 54)) p bv gv wd col q ((g1 :: gs).reverse ++ [g]) := h1
      obtain ⟨va, vc, rfl⟩ := row_slice h1.grow
      have hl : ((g1 :: gs).reverse ++ [g]).length = gs.length + 2 := by simp
      have hl2 : ((g1 :: gs).reverse).length = gs.length + 1 := by simp
      have hcut := rowG_cut h1.grow
      rw [hl2] at hcut
      have hcap : gs.length + 2 ≤ vc := by
        rcases h1.grow.2 with ⟨e, h0⟩ | ⟨gb, cp, cur, e, hbg, hgg, hnc, hcm, hcs, ht⟩
        · simp at h0
        · injection e with e1 e2 e3
          rw [hl] at hnc
          omega
      have c4 : (w.alloc (.cells #[.int .u8 (x.kind : Nat), .string (str x.tx), .int .i64 x.n, .int .i64 x.off, .bool x.col, .bool x.whole] 54)).cell? ⟨KB, 4, none⟩ = some (.slice va (gs.length + 2) vc) := by rw [h1.c4, hl]
      have f4 := h1.free 4
      have hg1 : gs.length + 1 ≤ 1500 := by simpa using hg
      have H2 := hidden (h1.groups (v' := .slice va (gs.length + 1) vc) (G' := gs.reverse ++ [g1]) (by rw [show (gs.reverse ++ [g1]).length = gs.length + 1 by simp, ← List.reverse_cons]; exact hcut) ⟨rfl, rfl, rfl, Nat.le_refl _, fun _ _ _ => rfl⟩)
      clear h1 hM ok k4 hcut hl hl2 hg
      generalize gs.length = m at *
      go_enter Try.func49, Try.ntmps49
      go_wp2_with fail
      go_end0
      rw [HG.out]
      exact ⟨rfl, _, _, _, H2.out⟩
  have z4 : ((x.kind : Int) == 4) = false := by simp; omega
  have HG : Hid (itemS wd s x sz = s) := by unfold Hid itemS; simp [k1, k2, k3, k4]
  have H1 := hidden h1
  clear h1 hM ok k1 k2 k3 k4
  go_enter Try.func49, Try.ntmps49
  go_wp2_with fail
  go_end0
  rw [HG.out]
  exact ⟨rfl, H1.out⟩
end Go.Proofs.PlatenLayout

/- What is printed stays within bounds; the program's way to print and the document's come to the same. -/
namespace Go.Proofs.PlatenLayout
open Go Go.RowKit Go.Shelf
set_option linter.unusedVariables false

structure LI (i : Nat) (s : Ly) : Prop where
  c0 : 0 ≤ s.col
  cp : s.col ≤ (s.p.length : Nat)
  gn : s.gs.length ≤ i
  ind : ∀ g ∈ s.g :: s.gs, -(70000 + 1048576 * (i : Int)) ≤ g.ind ∧ g.ind ≤ 70000 + 1048576 * (i : Int)
  byt : ∀ c ∈ s.p, c < 256
theorem li_start : LI 0 s0 where
  c0 := Int.le_refl _
  cp := Int.le_refl _
  gn := Nat.le_refl _
  ind := fun g hg => by
    simp [s0] at hg
    subst hg
    exact ⟨by simp, by simp⟩
  byt := fun c hc => by simp [s0] at hc
theorem sp_len (n : Nat) : (sp n).length = n := by simp [sp]
theorem stepL_gap (w : Int) (s : Ly) (x : It) (r : List It) (k : x.kind = 2) : stepL w s x r = (if s.g.flat = true ∨ (s.g.whole = false ∧ ((size (x :: r) : Nat) : Int) ≤ w - s.col) then { s with p := s.p ++ sp x.n.toNat, col := s.col + (x.n.toNat : Nat) } else { s with p := s.p ++ [10] ++ sp (s.g.ind + x.off).toNat, col := ((s.g.ind + x.off).toNat : Nat) }) := by
  simp [stepL, k]
theorem itemS_gap (w : Int) (s : Ly) (x : It) (sz : Nat) (k : x.kind = 2) : itemS w s x sz = (if s.g.flat = true ∨ (s.g.whole = false ∧ (sz : Int) ≤ w - s.col) then { s with p := s.p ++ sp (capN x.n), col := s.col + (capN x.n : Nat) } else { s with p := s.p ++ [10] ++ sp (capN (s.g.ind + x.off)), col := (capN (s.g.ind + x.off) : Nat) }) := by
  simp [itemS, gapS, k]
theorem capN_eq {n : Int} (h : n.toNat ≤ 65536) : capN n = n.toNat := by unfold capN; omega
theorem capN_big {n : Int} (h : 65536 < n.toNat) : capN n = 65537 := by unfold capN; omega
theorem capN_le (n : Int) : capN n ≤ 65537 := by unfold capN; omega
/-- Both ways to print come to the same, where it isn't too much. -/
theorem item_eq {w : Int} {s : Ly} {x : It} {r : List It} (h : (stepL w s x r).p.length ≤ most) : itemS w s x (size (x :: r)) = stepL w s x r := by
  by_cases k1 : x.kind = 1
  · simp [itemS, stepL, k1]
  by_cases k2 : x.kind = 2
  · rw [stepL_gap w s x r k2] at h ⊢
    rw [itemS_gap w s x _ k2]
    split at h
    · rename_i hc
      have hn : x.n.toNat ≤ 65536 := by
        have h' : (s.p ++ sp x.n.toNat).length ≤ 65536 := h
        rw [List.length_append, sp_len] at h'
        omega
      rw [if_pos hc, if_pos hc, capN_eq hn]
    · rename_i hc
      have hn : (s.g.ind + x.off).toNat ≤ 65536 := by
        have h' : (s.p ++ [10] ++ sp (s.g.ind + x.off).toNat).length ≤ 65536 := h
        rw [List.length_append, sp_len] at h'
        omega
      rw [if_neg hc, if_neg hc, capN_eq hn]
  by_cases k3 : x.kind = 3
  · simp [itemS, stepL, begS, k3]
  by_cases k4 : x.kind = 4
  · simp only [itemS, stepL, k4]
    cases s.gs <;> rfl
  · simp [itemS, stepL, k1, k2, k3, k4]
theorem item_big {w : Int} {s : Ly} {x : It} {r : List It} (h : most < (stepL w s x r).p.length) : most < (itemS w s x (size (x :: r))).p.length := by
  by_cases k2 : x.kind = 2
  · rw [stepL_gap w s x r k2] at h
    rw [itemS_gap w s x _ k2]
    split at h
    · rename_i hc
      rw [if_pos hc]
      have h' : 65536 < (s.p ++ sp x.n.toNat).length := h
      show 65536 < (s.p ++ sp (capN x.n)).length
      rw [List.length_append, sp_len] at h' ⊢
      unfold capN
      omega
    · rename_i hc
      rw [if_neg hc]
      have h' : 65536 < (s.p ++ [10] ++ sp (s.g.ind + x.off).toNat).length := h
      show 65536 < (s.p ++ [10] ++ sp (capN (s.g.ind + x.off))).length
      rw [List.length_append, sp_len] at h' ⊢
      unfold capN
      omega
  · by_cases k1 : x.kind = 1
    · have e : itemS w s x (size (x :: r)) = stepL w s x r := by simp [itemS, stepL, k1]
      rw [e]; exact h
    by_cases k3 : x.kind = 3
    · have e : itemS w s x (size (x :: r)) = stepL w s x r := by simp [itemS, stepL, begS, k3]
      rw [e]; exact h
    by_cases k4 : x.kind = 4
    · have e : itemS w s x (size (x :: r)) = stepL w s x r := by
        simp only [itemS, stepL, k4]
        cases s.gs <;> rfl
      rw [e]; exact h
    · have e : itemS w s x (size (x :: r)) = stepL w s x r := by simp [itemS, stepL, k1, k2, k3, k4]
      rw [e]; exact h
theorem item_len {w : Int} {s : Ly} {x : It} {sz : Nat} (ok : OkIt x) : (itemS w s x sz).p.length ≤ s.p.length + 200000 := by
  have h1 := ok.len
  by_cases k2 : x.kind = 2
  · rw [itemS_gap w s x _ k2]
    have h2 := capN_le x.n
    have h3 := capN_le (s.g.ind + x.off)
    split
    · show (s.p ++ sp (capN x.n)).length ≤ _
      rw [List.length_append, sp_len]; omega
    · show (s.p ++ [10] ++ sp (capN (s.g.ind + x.off))).length ≤ _
      rw [List.length_append, sp_len, List.length_append, List.length_singleton]; omega
  · by_cases k1 : x.kind = 1
    · simp [itemS, k1]; omega
    by_cases k3 : x.kind = 3
    · simp [itemS, begS, k3]
    by_cases k4 : x.kind = 4
    · unfold itemS
      rw [if_neg k1, if_neg k2, if_neg k3, if_pos k4]
      cases s.gs <;> simp
    · simp [itemS, k1, k2, k3, k4]
theorem size_tx {x : It} {r : List It} (k : x.kind = 1) : size (x :: r) = x.ch := by simp [size, k, It.own]
/-- An item more, within bounds. -/
theorem li_step {w : Int} {s : Ly} {x : It} {r : List It} {i : Nat} (h : LI i s) (ok : OkIt x) (hm : s.p.length ≤ most) (hm2 : (stepL w s x r).p.length ≤ most) : LI (i + 1) (stepL w s x r) := by
  have hc0 := h.c0
  have hcp := h.cp
  have hoff := ok.off
  have wid : ∀ g ∈ s.g :: s.gs, -(70000 + 1048576 * ((i + 1 : Nat) : Int)) ≤ g.ind ∧ g.ind ≤ 70000 + 1048576 * ((i + 1 : Nat) : Int) := fun g hg => by
    have := h.ind g hg
    omega
  have hgn := h.gn
  have spb : ∀ n, ∀ c ∈ sp n, c < 256 := sp_lt
  by_cases k1 : x.kind = 1
  · have e : stepL w s x r = { s with p := s.p ++ x.tx, col := s.col + (x.ch : Nat) } := by simp [stepL, k1, size_tx k1]
    have hch : x.ch ≤ x.tx.length := by rw [ok.ch]; exact PlatenGlyph.cnt_le _ _
    rw [e]
    refine ⟨?_, ?_, by show s.gs.length ≤ i + 1; omega, wid, ?_⟩
    · show 0 ≤ s.col + (x.ch : Nat); omega
    · show s.col + (x.ch : Nat) ≤ ((s.p ++ x.tx).length : Nat)
      rw [List.length_append]; omega
    · intro c hc
      rcases List.mem_append.1 hc with q | q
      · exact h.byt c q
      · exact ok.tx c q
  by_cases k2 : x.kind = 2
  · rw [stepL_gap w s x r k2] at hm2 ⊢
    split
    · refine ⟨?_, ?_, by show s.gs.length ≤ i + 1; omega, wid, ?_⟩
      · show 0 ≤ s.col + (x.n.toNat : Nat); omega
      · show s.col + (x.n.toNat : Nat) ≤ ((s.p ++ sp x.n.toNat).length : Nat)
        rw [List.length_append, sp_len]; omega
      · intro c hc
        rcases List.mem_append.1 hc with q | q
        · exact h.byt c q
        · exact spb _ c q
    · refine ⟨?_, ?_, by show s.gs.length ≤ i + 1; omega, wid, ?_⟩
      · show 0 ≤ (((s.g.ind + x.off).toNat : Nat) : Int); omega
      · show (((s.g.ind + x.off).toNat : Nat) : Int) ≤ ((s.p ++ [10] ++ sp (s.g.ind + x.off).toNat).length : Nat)
        rw [List.length_append, sp_len]; omega
      · intro c hc
        rcases List.mem_append.1 hc with q | q
        · rcases List.mem_append.1 q with q | q
          · exact h.byt c q
          · simp at q; omega
        · exact spb _ c q
  by_cases k3 : x.kind = 3
  · have e : stepL w s x r = { s with g := ⟨decide (((size (x :: r) : Nat) : Int) ≤ w - s.col), x.whole, (if x.col then s.col else s.g.ind) + x.off⟩, gs := s.g :: s.gs } := by simp [stepL, k3]
    rw [e]
    refine ⟨hc0, hcp, by show (s.g :: s.gs).length ≤ i + 1; simp; omega, ?_, h.byt⟩
    intro g hg
    rcases List.mem_cons.1 hg with q | q
    · rw [q]
      show -(70000 + 1048576 * ((i + 1 : Nat) : Int)) ≤ (if x.col then s.col else s.g.ind) + x.off ∧ (if x.col then s.col else s.g.ind) + x.off ≤ 70000 + 1048576 * ((i + 1 : Nat) : Int)
      have hm' : s.p.length ≤ 65536 := hm
      have := h.ind s.g (by simp)
      split <;> omega
    · exact wid g q
  by_cases k4 : x.kind = 4
  · cases hgs : s.gs with
    | nil =>
      have e : stepL w s x r = s := by simp [stepL, k4, hgs]
      rw [e]
      exact ⟨hc0, hcp, by omega, wid, h.byt⟩
    | cons a t =>
      have e : stepL w s x r = { s with g := a, gs := t } := by simp [stepL, k4, hgs]
      rw [e]
      refine ⟨hc0, hcp, ?_, ?_, h.byt⟩
      · rw [hgs] at hgn; simp at hgn; show t.length ≤ i + 1; omega
      · intro g hg
        have hg : g ∈ a :: t := hg
        exact wid g (by rw [hgs]; exact List.mem_cons_of_mem _ hg)
  · have e : stepL w s x r = s := by simp [stepL, k1, k2, k3, k4]
    rw [e]
    exact ⟨hc0, hcp, by omega, wid, h.byt⟩
end Go.Proofs.PlatenLayout

/- What layout.Lay comes to. -/
namespace Go.Proofs.PlatenLayout
open Go Go.RowKit Go.Shelf
set_option linter.unusedVariables false
set_option maxRecDepth 100000

/-- The text that is laid out, or that it is too much. -/
def LayRes (o : Option (List Nat)) (e : Ending) : Prop := e = .returned (.tuple #[.string (match o with | some q => str q | none => ByteArray.empty), .int .i64 (match o with | some _ => 0 | none => 4)])
theorem made_groups : (madeCells #[Value.int .i64 0, Value.bool false, Value.bool false] 3).toList = rowG [⟨false, false, 0⟩] := by kernel_rfl
theorem pm_start {w w1 : World} {wd : Int} (hr : w1.ownsRow w.heap.size 120 3 (.slice (some ⟨w.heap.size, 0, none⟩) 1 1) 1 (rowG [⟨false, false, 0⟩])) (hg : w.grownBy w1 none) {w2 : World}
    (hb : Below (w1.alloc (.cells #[.pointer none, .slice none 0 0, .int .i64 wd, .int .i64 0, .slice (some ⟨w.heap.size, 0, none⟩) 1 1] 91)).heap.size (w1.alloc (.cells #[.pointer none, .slice none 0 0, .int .i64 wd, .int .i64 0, .slice (some ⟨w.heap.size, 0, none⟩) 1 1] 91)) w2) :
    PM w.heap.size w1.heap.size w2 wd s0 w2 := by
  have hw := hg.size
  have hz := hb.size
  rw [World.size_alloc] at hz
  refine ⟨.pointer none, .slice none 0 0, .slice (some ⟨w.heap.size, 0, none⟩) 1 1, ⟨hw, by omega, ?_, Or.inl rfl, World.ownsRow_nil _ _ _ _, ?_, Below.refl _ _, fun _ => rfl, fun _ _ a => a⟩⟩
  · rw [hb.block _ (by simp)]
    exact heap_alloc_new _ _
  · exact row_grown (hr.alloc _) (grown_below hb) (by simp)

set_option maxHeartbeats 4000000 in
theorem lay_any {v : Value} {l : List It} {w : World} (h : IsItems w v l) (ok : OkL l) (wd : Int) (hwd : -4000000000 ≤ wd ∧ wd ≤ 4000000000) :
    Calls Try.prog 31 #[v, .int .i64 wd] w fun e w' => LayRes (lay wd l s0) e ∧ Below w.heap.size w w' := by
  obtain ⟨i78, hi78, hz78, hy78, hb78⟩ := info_parts info78
  obtain ⟨a, cap, rfl⟩ := h.val
  have hl1 := ok.1
  have HL := hidden h
  have Hok := hidden ok
  have hby : i78.bytes * 1 ≤ 281474976710656 := by rw [hb78]; omega
  have hml : 1 ≤ maxLen := by unfold maxLen; omega
  clear h ok
  obtain ⟨n, hn⟩ : ∃ n, l.length = n := ⟨_, rfl⟩
  rw [hn] at hl1 ⊢
  have Hn := hidden hn
  clear hn
  go_enter Try.func31, Try.ntmps31
  go_wp2_with (at_make; refine wpList_make_full _ rfl _ _ _ rfl w.heap.size 120 i78 (.agg #[.int .i64 0, .bool false, .bool false]) 3 Try.underlying86 hi78 hz78 hy78 .i64 .i64 (1 : Int) (1 : Int) 1 rfl rfl rfl rfl hby hml (Nat.le_refl _) ?_)
  intro w1 hr hg
  have hr2 : w1.ownsRow w.heap.size 120 3 (.slice (some ⟨w.heap.size, 0, none⟩) 1 1) 1 (rowG [⟨false, false, 0⟩]) := made_groups ▸ hr
  have HS := hidden (fun w2 => pm_start (wd := wd) hr2 hg (w2 := w2))
  have hbW : Below w.heap.size w (w1.alloc (.cells #[.pointer none, .slice none 0 0, .int .i64 wd, .int .i64 0, .slice (some ⟨w.heap.size, 0, none⟩) 1 1] 91)) := ((Below.refl _ _).grown hg (Nat.le_refl _) (by simp)).alloc hg.size _
  have hIW := HL.out.below hbW
  have cs := sizes_any hIW Hok.out
  rw [Hn.out] at cs
  have HbW := hidden hbW
  clear hr hr2 hg hby hml hbW hIW
  go_wp2_with fail
  refine cs.mono ?_
  clear cs
  rintro e w2 ⟨u, rfl, hz2, hb2⟩
  have hp2 := HS.out w2 hb2
  have HB2 := hidden (HbW.out.trans (hb2.mono HbW.out.size))
  obtain ⟨za, zc, rfl, _⟩ := id hz2
  have HZ2 := hidden hz2
  rw [szs_len, Hn.out]
  have HP2 := hidden hp2
  clear hz2 hp2 hb2 HS HbW
  go_wp2_with fail
  generalize w1.heap.size = KB at *
  go_loopw [15] (fun i wr => ∃ (k : Nat) (s : Ly), k ≤ n ∧ i = .int .i64 (k : Nat) ∧ LI k s ∧ s.p.length ≤ most ∧ lay wd (l.drop k) s = lay wd l s0 ∧ PM w.heap.size KB w2 wd s wr) (fun i _ => n - (intOf i).toNat)
  case atStart => exact ⟨0, s0, Nat.zero_le _, rfl, li_start, Nat.zero_le _, rfl, HP2.out⟩
  case round =>
    obtain ⟨k, s, hk, rfl, hli, hm, hlay, hp⟩ := hrel
    by_cases hlt : k < n
    · have hll : k < l.length := by rw [Hn.out]; exact hlt
      obtain ⟨x, hx⟩ : ∃ x, l[k] = x := ⟨_, rfl⟩
      have hdr : l.drop k = x :: l.drop (k + 1) := by rw [← hx]; exact List.drop_eq_getElem_cons hll
      have hox : OkIt x := Hok.out.2 x (by rw [← hx]; exact List.getElem_mem hll)
      obtain ⟨p0, b0, g0, hpr⟩ := id hp
      have hbr := HB2.out.trans hpr.bel
      obtain ⟨b, off, cp, hv, hcap, x0, x1, x2, x3, x4, x5⟩ := (HL.out.below hbr).at' hll
      obtain ⟨zg, zc', hzv, hzc, zz⟩ := (HZ2.out.of hpr.k3).at' (szs_get l hll)
      rw [hx] at x0 x1 x2 x3 x4 x5
      rw [Hn.out] at hv hcap
      injection hv with hv1 hv2 hv3
      subst hv1 hv3
      injection hzv with hz1 hz2 hz3
      subst hz1 hz3
      rw [szs_len, Hn.out] at hzc
      have hsz := Hok.out.size k
      have hind := hli.ind s.g (by simp)
      have hgn := hli.gn
      have hc0 := hli.c0
      have hcp := hli.cp
      have hm' : s.p.length ≤ 65536 := hm
      have ci := item_any hp x hox (size (l.drop k)) (by omega) (by omega) (by omega) (by omega) (by omega)
      have hlen := item_len (w := wd) (s := s) (sz := size (l.drop k)) hox
      have Heq : Hid ((stepL wd s x (l.drop (k + 1))).p.length ≤ most → itemS wd s x (size (l.drop k)) = stepL wd s x (l.drop (k + 1))) := fun q => by rw [hdr]; exact item_eq q
      have Hbig : Hid (most < (stepL wd s x (l.drop (k + 1))).p.length → most < (itemS wd s x (size (l.drop k))).p.length) := fun q => by rw [hdr]; exact item_big q
      have HL2 : Hid (lay wd l s0 = if most < (stepL wd s x (l.drop (k + 1))).p.length then none else lay wd (l.drop (k + 1)) (stepL wd s x (l.drop (k + 1)))) := by
        unfold Hid
        rw [← hlay, hdr]
        rfl
      have Hst : Hid ((stepL wd s x (l.drop (k + 1))).p.length ≤ most → LI (k + 1) (stepL wd s x (l.drop (k + 1)))) := fun q => li_step hli hox hm q
      have hlz : (k : Int) < (n : Int) := by omega
      clear hp hpr hbr hx hdr hox hli hlay hm hind hgn hc0 hcp hv2 hz2
      generalize size (l.drop k) = sz at *
      generalize hS : stepL wd s x (l.drop (k + 1)) = S1 at *
      clear hS
      go_wp2_with fail
      refine ci.mono ?_
      clear ci
      rintro e w3 ⟨rfl, h3⟩
      obtain ⟨p3, b3, g3, hpr3⟩ := id h3
      have cl := len_any hpr3
      have H3 := hidden h3
      clear h3 hpr3 x0 x1 x2 x3 x4 x5 zz
      by_cases hbig : most < S1.p.length
      · have hb2 : 65536 < (itemS wd s x sz).p.length := Hbig.out hbig
        generalize hI : (itemS wd s x sz).p.length = m at *
        have hmz : (65536 : Int) < (m : Int) := by omega
        obtain ⟨p4, b4, g4, hpr4⟩ := H3.out
        have HB4 := hidden (HB2.out.trans hpr4.bel)
        have HN : Hid (lay wd l s0 = none) := by unfold Hid; rw [HL2.out, if_pos hbig]
        clear hpr4 hb2 hbig hI
        go_wp2_with fail
        refine cl.mono ?_
        clear cl
        rintro e w4 ⟨rfl, rfl⟩
        go_wp2_with fail
        go_ret2
        refine ⟨?_, HB4.out⟩
        rw [HN.out]
        rfl
      · have hle : S1.p.length ≤ most := Nat.le_of_not_lt hbig
        have hE := Heq.out hle
        rw [hE] at cl H3
        have hmz : ¬ ((65536 : Int) < (S1.p.length : Int)) := by have : S1.p.length ≤ 65536 := hle; omega
        have HN : Hid (lay wd (l.drop (k + 1)) S1 = lay wd l s0) := by unfold Hid; rw [HL2.out, if_neg hbig]
        have HI := hidden (Hst.out hle)
        have Hle := hidden hle
        clear hE hbig hle
        generalize hq : S1.p.length = m at *
        have Hq := hidden hq
        clear hq
        go_wp2_with fail
        refine cl.mono ?_
        clear cl
        rintro e w4 ⟨rfl, rfl⟩
        go_wp2_with fail
        go_roundw
        case rel => exact ⟨k + 1, S1, hlt, by go_num, HI.out, by rw [Hq.out]; exact Hle.out, HN.out, H3.out⟩
        case measure => simp [intOf]; omega
    · have hkn : k = n := by omega
      have hlz : ¬ ((k : Int) < (n : Int)) := by omega
      have hd : l.drop k = [] := by rw [List.drop_eq_nil_iff, Hn.out]; omega
      rw [hd] at hlay
      have HN : Hid (lay wd l s0 = some s.p) := hlay.symm
      obtain ⟨p0, b0, g0, hpr⟩ := hp
      have hm' : s.p.length ≤ 65536 := hm
      have cS := string_any hpr hli.byt (by omega)
      clear hpr hli hlay hm hd hkn hlt
      go_wp2_with fail
      refine cS.mono ?_
      clear cS
      rintro e w4 ⟨rfl, hb4⟩
      have HB4 := hidden (HB2.out.trans hb4)
      clear hb4
      go_wp2_with fail
      go_ret2
      refine ⟨?_, HB4.out⟩
      rw [HN.out]
      rfl
end Go.Proofs.PlatenLayout
