/- same, begin; a slice of acts as an argument. -/
import Derived.Test.YtibdhahkkejnjaaPuF
import Derived.Test.YtibdhahkkejnjaaOwnA
namespace Go.Proofs.PlatenPiece
open Go Go.RowKit
set_option linter.unusedVariables false
set_option maxRecDepth 100000

theorem src_of_row {B : Nat} {w : World} {v : Value} {l : List Nat} (h : w.ownsRow B 5 1 v l.length (bytesV l)) : PlatenPiece.Src w v l := by
  have hc := fun g => h.cells (g := g)
  rcases h.2 with ⟨rfl, h0⟩ | ⟨g, cap, cur, rfl, _⟩
  · exact Or.inl ⟨rfl, List.eq_nil_of_length_eq_zero h0⟩
  · exact Or.inr ⟨_, _, rfl, hc g rfl⟩

section
variable {B : Nat} {wB w w' : World} {T H M : Nat} {s : Hs} {c : Nat} {X R : Nat → Prop} {l0 : List Nat}
set_option maxHeartbeats 4000000 in
theorem same_pr (h : PR B wB w T H M s s c X R) (hi : Inv l0 s) (hc : c ≤ 4500) (hz : s.sz ≤ 1000) :
    Calls Try.prog 29 #[.pointer (some ⟨T, 0, none⟩), .pointer (some ⟨H, 0, none⟩), .pointer (some ⟨M, 0, none⟩)] w fun q w' => q = .returned (.bool true) ∧ w.grownBy w' none := by
  have HPR := hidden h
  have Hi := hidden hi
  clear h hi
  go_enter Try.func29, Try.ntmps29
  go_wp2_with fail
  refine (hs_depth HPR.out.hs).mono ?_
  rintro q w1 ⟨rfl, hg1⟩
  have HP1 := hidden (HPR.out.grown (grown_tr hg1 (grown_drew w1)))
  have HG1 := hidden (grown_tr hg1 (grown_drew w1))
  clear hg1 HPR
  obtain ⟨D, hD⟩ : ∃ D, s.done.length = D := ⟨_, rfl⟩
  obtain ⟨G, hG⟩ : ∃ G, s.gone.length = G := ⟨_, rfl⟩
  rw [hD, hG]
  obtain ⟨pv, dv, gv, nv, dn, gn, hrp, hm1, hm2, hm3⟩ := HP1.out.rs
  have hdl : dn.length = D := by rw [← hD, ← hm1, List.length_map]
  have hgl : gn.length = G := by rw [← hG, ← hm2, List.length_map]
  obtain ⟨da, dc, rfl⟩ := row_slice hrp.drow
  obtain ⟨ga, gc, rfl⟩ := row_slice hrp.grow
  obtain ⟨pa, pc, rfl⟩ := row_slice hrp.prow
  have hcells := hrp.cells
  rw [hdl, hgl] at hcells
  have Hrp := hidden hrp
  have HS : Hid (∀ u, w1.drew.grownBy u none → (fun u : World => u.cell? ⟨M, 0, none⟩ = some (.slice pa s.l.length pc) ∧ u.cell? ⟨M, 1, none⟩ = some (.slice da D dc) ∧ u.cell? ⟨M, 2, none⟩ = some (.slice ga G gc)) u) := fun u hu => by
    have := (Hrp.out.grown hu).cells
    rw [hdl, hgl] at this
    exact ⟨this.1, this.2.1, this.2.2.1⟩
  clear hD hG hrp hm1 hm2 hm3 hdl hgl
  go_wp2_with fail
  refine wp_region_held_drew (S := (fun u : World => u.cell? ⟨M, 0, none⟩ = some (.slice pa s.l.length pc) ∧ u.cell? ⟨M, 1, none⟩ = some (.slice da D dc) ∧ u.cell? ⟨M, 2, none⟩ = some (.slice ga G gc))) (by kernel_rfl) (HS.out _ (grownBy_refl _ _)) (fun hHeld => ?_)
  clear hcells
  generalize w1.drew = W at *
  refine take_dst 0 (some 14) rfl rfl (by kernel_rfl) (by kernel_rfl) (by kernel_rfl) (fun _ _ _ h => h) (v := ?_) (Or.inl ⟨by rfl, ?_⟩) (by assumption) ?_
  rotate_left
  · (intro w hSw; (try dsimp only at hSw); go_simp; try with_reducible rfl)
  simp only [Act.put, List.setIfInBounds_toArray, List.set_cons_zero, List.set_cons_succ]
  refine take_dst 2 (some 16) rfl rfl (by kernel_rfl) (by kernel_rfl) (by kernel_rfl) (fun _ _ _ h => h) (v := ?_) (Or.inl ⟨by rfl, ?_⟩) (by assumption) ?_
  rotate_left
  · (intro w hSw; (try dsimp only at hSw); go_simp; try with_reducible rfl)
  simp only [Act.put, List.setIfInBounds_toArray, List.set_cons_zero, List.set_cons_succ]
  refine take_dst 3 (some 17) rfl rfl (by kernel_rfl) (by kernel_rfl) (by kernel_rfl) (fun _ _ _ h => h) (v := ?_) (Or.inl ⟨by rfl, ?_⟩) (by assumption) ?_
  rotate_left
  · (intro w hSw; (try dsimp only at hSw); go_simp; try with_reducible rfl)
  simp only [Act.put, List.setIfInBounds_toArray, List.set_cons_zero, List.set_cons_succ]
  refine take_dst 4 (some 18) rfl rfl (by kernel_rfl) (by kernel_rfl) (by kernel_rfl) (fun _ _ _ h => h) (v := ?_) (Or.inl ⟨by rfl, ?_⟩) (by assumption) ?_
  rotate_left
  · (intro w hSw; (try dsimp only at hSw); go_simp; try with_reducible rfl)
  simp only [Act.put, List.setIfInBounds_toArray, List.set_cons_zero, List.set_cons_succ]
  refine take_dst 5 (some 19) rfl rfl (by kernel_rfl) (by kernel_rfl) (by kernel_rfl) (fun _ _ _ h => h) (v := ?_) (Or.inl ⟨by rfl, ?_⟩) (by assumption) ?_
  rotate_left
  · (intro w hSw; (try dsimp only at hSw); go_simp; try with_reducible rfl)
  simp only [Act.put, List.setIfInBounds_toArray, List.set_cons_zero, List.set_cons_succ]
  refine wpAnyH_ready (rs := [1]) (by kernel_rfl) (by simp) ?_
  refine AllReadyH.cons rfl (fun K hK => ?_) AllReadyH.nil
  go_simp
  refine (hs_bytes HP1.out.hs hc).mono ?_
  rintro q w2 ⟨rfl, hh2, hg2⟩
  have HH2 := hidden hh2
  have HG2 := hidden hg2
  refine hK.out _ _ (HS.out _ hg2) (fun hHeld1 => ?_)
  clear hK K hHeld hh2 hg2
  refine wpAnyH_ready (rs := [6]) (by kernel_rfl) (by simp) ?_
  refine AllReadyH.cons rfl (fun K hK => ?_) AllReadyH.nil
  go_simp
  refine (same_src _ _ _ _ _ Hi.out.bytes (by have := Hi.out.len; omega) HH2.out (src_of_row (Hrp.out.grown HG2.out).prow)).mono ?_
  rintro q w3 ⟨rfl, hb3⟩
  have HG3 := hidden (grown_tr HG2.out (grown_of_below hb3))
  refine hK.out _ _ (HS.out _ HG3.out) (fun hHeld2 => ?_)
  clear hK K hHeld1 hb3 HH2 HG2
  refine take_dst 7 (some 21) rfl rfl (by kernel_rfl) (by kernel_rfl) (by kernel_rfl) (fun _ _ _ h => h) (v := ?_) (Or.inl ⟨by rfl, ?_⟩) (by assumption) ?_
  rotate_left
  · (intro w hSw; (try dsimp only at hSw); go_simp; try with_reducible rfl)
  simp only [Act.put, List.setIfInBounds_toArray, List.set_cons_zero, List.set_cons_succ]
  refine take_dst 8 (some 22) rfl rfl (by kernel_rfl) (by kernel_rfl) (by kernel_rfl) (fun _ _ _ h => h) (v := ?_) (Or.inl ⟨by rfl, ?_⟩) (by assumption) ?_
  rotate_left
  · (intro w hSw; (try dsimp only at hSw); go_simp; try with_reducible rfl)
  simp only [Act.put, List.setIfInBounds_toArray, List.set_cons_zero, List.set_cons_succ]
  refine take_dst 9 (some 23) rfl rfl (by kernel_rfl) (by kernel_rfl) (by kernel_rfl) (fun _ _ _ h => h) (v := ?_) (Or.inl ⟨by rfl, ?_⟩) (by assumption) ?_
  rotate_left
  · (intro w hSw; (try dsimp only at hSw); go_simp; try with_reducible rfl)
  simp only [Act.put, List.setIfInBounds_toArray, List.set_cons_zero, List.set_cons_succ]
  refine take_dst 10 (some 24) rfl rfl (by kernel_rfl) (by kernel_rfl) (by kernel_rfl) (fun _ _ _ h => h) (v := ?_) (Or.inl ⟨by rfl, ?_⟩) (by assumption) ?_
  rotate_left
  · (intro w hSw; (try dsimp only at hSw); go_simp; try with_reducible rfl)
  simp only [Act.put, List.setIfInBounds_toArray, List.set_cons_zero, List.set_cons_succ]
  refine take_dst 11 (some 25) rfl rfl (by kernel_rfl) (by kernel_rfl) (by kernel_rfl) (fun _ _ _ h => h) (v := ?_) (Or.inl ⟨by rfl, ?_⟩) (by assumption) ?_
  rotate_left
  · (intro w hSw; (try dsimp only at hSw); go_simp; try with_reducible rfl)
  simp only [Act.put, List.setIfInBounds_toArray, List.set_cons_zero, List.set_cons_succ]
  refine take_dst 12 (some 26) rfl rfl (by kernel_rfl) (by kernel_rfl) (by kernel_rfl) (fun _ _ _ h => h) (v := ?_) (Or.inl ⟨by rfl, ?_⟩) (by assumption) ?_
  rotate_left
  · (intro w hSw; (try dsimp only at hSw); go_simp; try with_reducible rfl)
  simp only [Act.put, List.setIfInBounds_toArray, List.set_cons_zero, List.set_cons_succ]
  refine take_dst 13 (some 27) rfl rfl (by kernel_rfl) (by kernel_rfl) (by kernel_rfl) (fun _ _ _ h => h) (v := ?_) (Or.inl ⟨by rfl, ?_⟩) (by assumption) ?_
  rotate_left
  · (intro w hSw; (try dsimp only at hSw); go_simp; try with_reducible rfl)
  simp only [Act.put, List.setIfInBounds_toArray, List.set_cons_zero, List.set_cons_succ]
  refine take_dst 14 (some 28) rfl rfl (by kernel_rfl) (by kernel_rfl) (by kernel_rfl) (fun _ _ _ h => h) (v := ?_) (Or.inl ⟨by rfl, ?_⟩) (by assumption) ?_
  rotate_left
  · (intro w hSw; (try dsimp only at hSw); go_simp; try with_reducible rfl)
  simp only [Act.put, List.setIfInBounds_toArray, List.set_cons_zero, List.set_cons_succ]
  refine take_dst 15 (some 29) rfl rfl (by kernel_rfl) (by kernel_rfl) (by kernel_rfl) (fun _ _ _ h => h) (v := ?_) (Or.inl ⟨by rfl, ?_⟩) (by assumption) ?_
  rotate_left
  · (intro w hSw; (try dsimp only at hSw); go_simp; try with_reducible rfl)
  simp only [Act.put, List.setIfInBounds_toArray, List.set_cons_zero, List.set_cons_succ]
  refine take_dst 16 (some 30) rfl rfl (by kernel_rfl) (by kernel_rfl) (by kernel_rfl) (fun _ _ _ h => h) (v := ?_) (Or.inl ⟨by rfl, ?_⟩) (by assumption) ?_
  rotate_left
  · (intro w hSw; (try dsimp only at hSw); go_simp; try with_reducible rfl)
  simp only [Act.put, List.setIfInBounds_toArray, List.set_cons_zero, List.set_cons_succ]
  refine take_dst 17 (some 31) rfl rfl (by kernel_rfl) (by kernel_rfl) (by kernel_rfl) (fun _ _ _ h => h) (v := ?_) (Or.inl ⟨by rfl, ?_⟩) (by assumption) ?_
  rotate_left
  · (intro w hSw; (try dsimp only at hSw); go_simp; try with_reducible rfl)
  simp only [Act.put, List.setIfInBounds_toArray, List.set_cons_zero, List.set_cons_succ]
  refine take_dst 18 (some 32) rfl rfl (by kernel_rfl) (by kernel_rfl) (by kernel_rfl) (fun _ _ _ h => h) (v := ?_) (Or.inl ⟨by rfl, ?_⟩) (by assumption) ?_
  rotate_left
  · (intro w hSw; (try dsimp only at hSw); go_simp; try with_reducible rfl)
  simp only [Act.put, List.setIfInBounds_toArray, List.set_cons_zero, List.set_cons_succ]
  refine take_dst 19 (some 33) rfl rfl (by kernel_rfl) (by kernel_rfl) (by kernel_rfl) (fun _ _ _ h => h) (v := ?_) (Or.inl ⟨by rfl, ?_⟩) (by assumption) ?_
  rotate_left
  · (intro w hSw; (try dsimp only at hSw); go_simp; try with_reducible rfl)
  simp only [Act.put, List.setIfInBounds_toArray, List.set_cons_zero, List.set_cons_succ]
  refine take_dst 20 (some 34) rfl rfl (by kernel_rfl) (by kernel_rfl) (by kernel_rfl) (fun _ _ _ h => h) (v := ?_) (Or.inl ⟨by rfl, ?_⟩) (by assumption) ?_
  rotate_left
  · (intro w hSw; (try dsimp only at hSw); go_simp; try with_reducible rfl)
  simp only [Act.put, List.setIfInBounds_toArray, List.set_cons_zero, List.set_cons_succ]
  refine take_dst 21 (some 35) rfl rfl (by kernel_rfl) (by kernel_rfl) (by kernel_rfl) (fun _ _ _ h => h) (v := ?_) (Or.inl ⟨by rfl, ?_⟩) (by assumption) ?_
  rotate_left
  · (intro w hSw; (try dsimp only at hSw); go_simp; try with_reducible rfl)
  simp only [Act.put, List.setIfInBounds_toArray, List.set_cons_zero, List.set_cons_succ]
  refine take_dst 22 (some 36) rfl rfl (by kernel_rfl) (by kernel_rfl) (by kernel_rfl) (fun _ _ _ h => h) (v := ?_) (Or.inl ⟨by rfl, ?_⟩) (by assumption) ?_
  rotate_left
  · (intro w hSw; (try dsimp only at hSw); go_simp; try with_reducible rfl)
  simp only [Act.put, List.setIfInBounds_toArray, List.set_cons_zero, List.set_cons_succ]
  refine take_dst 23 (some 37) rfl rfl (by kernel_rfl) (by kernel_rfl) (by kernel_rfl) (fun _ _ _ h => h) (v := ?_) (Or.inl ⟨by rfl, ?_⟩) (by assumption) ?_
  rotate_left
  · (intro w hSw; (try dsimp only at hSw); go_simp; try with_reducible rfl)
  simp only [Act.put, List.setIfInBounds_toArray, List.set_cons_zero, List.set_cons_succ]
  refine take_dst 24 (some 38) rfl rfl (by kernel_rfl) (by kernel_rfl) (by kernel_rfl) (fun _ _ _ h => h) (v := ?_) (Or.inl ⟨by rfl, ?_⟩) (by assumption) ?_
  rotate_left
  · (intro w hSw; (try dsimp only at hSw); go_simp; try with_reducible rfl)
  simp only [Act.put, List.setIfInBounds_toArray, List.set_cons_zero, List.set_cons_succ]
  refine take_dst 25 (some 6) rfl rfl (by kernel_rfl) (by kernel_rfl) (by kernel_rfl) (fun _ _ _ h => h) (v := ?_) (Or.inl ⟨by rfl, ?_⟩) (by assumption) ?_
  rotate_left
  · (intro w hSw; (try dsimp only at hSw); go_simp; try with_reducible rfl)
  simp only [Act.put, List.setIfInBounds_toArray, List.set_cons_zero, List.set_cons_succ]
  refine wpAnyH_done (by kernel_rfl) ?_ _
  clear hHeld2 HS Hrp
  go_wp2
  go_ret
  exact ⟨rfl, grown_tr HG1.out HG3.out⟩
end

theorem results_tmp4 {fn : Func} {t u v x : Tmp} (h : fn.results = #[.tmp t, .tmp u, .tmp v, .tmp x]) (tmps : Array Value) (P : Program) (w : World) :
    (results fn tmps).run P w = .ok (.tuple #[tmps.getD t undef, tmps.getD u undef, tmps.getD v undef, tmps.getD x undef]) w := by
  simp [results, h]

/-- A table at first. -/
theorem tx_first {B : Nat} {w : World} {T : Nat} {pv : Value} {ps : List Pc} {l : List Nat} (h : Tab B w T pv ps l.length 0) (hf : PlatenPiece.flat ps = l) (hp : ps.length ≤ 1) (hk : ∀ p ∈ ps, p.k = 0) (hl : l.length ≤ 65536) (hB : B ≤ w.heap.size) : Tx B w T l 0 (PlatenPiece.Own T pv ps) := by
  have hs : lenSum ps = l.length := by rw [← hf, flat_len]
  exact ⟨pv, ps, 0, rfl, by rw [hs]; exact h, hf, by omega, by omega, by omega, fun p hp => by have := hk p hp; omega, hB⟩

/-- Both pasts at first. -/
theorem start_pr {w w1 w2 w3 : World} {T H : Nat} {O : Nat → Prop} {x : Value} {l0 : List Nat} (hp : HP w.heap.size w2 H T l0 0 O (.slice none 0 0) (.slice none 0 0) (.slice none 0 0) [] [] []) (hg1 : w.grownBy w1 none) (hg2 : w1.grownBy w2 none) (hL : Laid w2 w3 x l0) :
    ∃ X R, PR w.heap.size w (w3.alloc (.cells #[x, .slice none 0 0, .slice none 0 0, .slice none 0 0] 51)) T H w3.heap.size ⟨l0, [], [], []⟩ ⟨l0, [], [], []⟩ 0 X R := by
  have hs12 : w.heap.size ≤ w2.heap.size := Nat.le_trans hg1.size hg2.size
  have hs23 := hL.2.size
  have hga := grownBy_alloc w3 (.cells #[x, .slice none 0 0, .slice none 0 0, .slice none 0 0] 51)
  have hg23 := grown_of_below hL.2
  have hp4 := (hp.grown hg23).grown hga
  have hrow : w3.ownsRow w.heap.size 5 1 x l0.length (bytesV l0) := up_row hL.1 hs12
  have hrp : RP w.heap.size (w3.alloc (.cells #[x, .slice none 0 0, .slice none 0 0, .slice none 0 0] 51)) w3.heap.size l0 x (.slice none 0 0) (.slice none 0 0) (.slice none 0 0) [] [] [] := by
    refine ⟨by omega, by simp; omega, heap_alloc_new _ _, row_grown hrow hga (by simp), World.ownsRow_nil _ _ _ _, World.ownsRow_nil _ _ _ _, World.ownsRow_nil _ _ _ _, by simp, Or.inl rfl⟩
  refine ⟨_, _, ⟨_, _, _, _, _, _, hp4, rfl, rfl, rfl⟩, ⟨_, _, _, _, _, _, hrp, rfl, rfl, rfl⟩, fun k hx hr => ?_, ?_⟩
  · have h1 := (hp.own k hx).2
    rcases hr with rfl | hr | hr | hr | hr | ⟨t, ht, _⟩
    · omega
    · have := (own_lt_row hL.1 hr).1; omega
    · simp [Value.ownBlock] at hr
    · simp [Value.ownBlock] at hr
    · simp [Value.ownBlock] at hr
    · simp at ht
  · have := grown_tr (grown_tr (grown_tr hg1 hg2) hg23) hga
    exact ⟨this.os, this.tape, this.output, this.size, fun k hk => this.block k hk (by simp)⟩
theorem inv_first {l0 : List Nat} (hl : l0.length ≤ 65536) (hlt : ∀ c ∈ l0, c < 256) : Inv l0 ⟨l0, [], [], []⟩ := ⟨hl, hlt, rfl, ⟨l0, rfl⟩, fun _ => rfl, by simp⟩
/-- An act that is read. -/
theorem acts_at {w wr : World} {va : Option Addr} {m cap : Nat} {xs : List AC} (h : IsActs w (.slice va m cap) xs) (hb : Below w.heap.size w wr) {k : Nat} (hk : k < m) (hm : xs.length = m) : ∃ a pb po ps ad, xs[k]? = some a ∧ a ∈ xs ∧ a.ok ∧ va = some ad ∧ ad.add (k * 5) = ⟨pb, po, ps⟩ ∧ wr.cell? ⟨pb, po, ps⟩ = some (.int .u8 (a.d : Nat)) ∧ wr.cell? ⟨pb, po + 1, none⟩ = some (.int .i64 a.at') ∧ wr.cell? ⟨pb, po + 2, none⟩ = some (.int .i64 a.n) ∧ wr.cell? ⟨pb, po + 3, none⟩ = some (.string a.old) ∧ wr.cell? ⟨pb, po + 4, none⟩ = some (.string a.new) := by
  obtain ⟨a, ha⟩ : ∃ a, xs[k]? = some a := ⟨_, List.getElem?_eq_getElem (by omega)⟩
  obtain ⟨h0, va', cap', e, h1⟩ := h.below hb
  simp only [Value.slice.injEq] at e
  obtain ⟨rfl, _, rfl⟩ := e
  obtain ⟨hok, ad, rfl, h2⟩ := h1 k a ha
  obtain ⟨⟨pb, po, ps⟩, hP⟩ : ∃ P, ad.add (k * 5) = P := ⟨_, rfl⟩
  rw [hP] at h2
  exact ⟨a, pb, po, ps, ad, ha, List.mem_of_getElem? ha, hok, rfl, hP, h2.1, h2.2.1, h2.2.2.1, h2.2.2.2.1, h2.2.2.2.2⟩

/-- What begin comes to. -/
def BeginPost (w : World) (l0 : List Nat) (q : Ending) (w' : World) : Prop := ∃ T H M s X R, q = .returned (.tuple #[.pointer (some ⟨T, 0, none⟩), .pointer (some ⟨H, 0, none⟩), .pointer (some ⟨M, 0, none⟩), .bool true]) ∧ PR w.heap.size w w' T H M s s 1200 X R ∧ Inv l0 s ∧ s.sz ≤ 24 ∧ s.now = []

set_option maxHeartbeats 4000000 in
theorem begin_any (pv v : Value) (l0 : List Nat) (xs : List AC) (w : World) (hs : PlatenPiece.Src w pv l0) (hl : l0.length ≤ 60) (hlt : ∀ c ∈ l0, c < 256) (hv : IsActs w v xs) (hx : xs.length ≤ 24) (hall : ∀ a ∈ xs, a.old.size ≤ 60 ∧ a.new.size ≤ 60) :
    Calls Try.prog 32 #[pv, v] w fun q w' => BeginPost w l0 q w' := by
  obtain ⟨m, hm⟩ : ∃ m, xs.length = m := ⟨_, rfl⟩
  obtain ⟨hx0, va, cap, rfl, hxx⟩ := hv
  have HA : Hid (IsActs w (.slice va m cap) xs) := by rw [← hm]; exact ⟨hx0, va, cap, rfl, hxx⟩
  have HSrc := hidden hs
  have Hl := hidden hl
  have Hlt := hidden hlt
  have Hall := hidden hall
  have Hm := hidden hm
  rw [hm] at hx ⊢
  obtain ⟨pa, pn, pc, rfl⟩ : ∃ pa pn pc, pv = .slice pa pn pc := by
    rcases hs with ⟨rfl, _⟩ | ⟨ad, cap, rfl, _⟩
    · exact ⟨_, _, _, rfl⟩
    · exact ⟨_, _, _, rfl⟩
  clear hs hl hlt hall hm hxx hx0
  go_enter Try.func32, Try.ntmps32
  go_wp2_with fail
  refine (Go.Proofs.Ytibdhahkkejnjaa.Own.new_any _ l0 w HSrc.out (by have := Hl.out; omega)).mono ?_
  rintro q w1 ⟨T, tpv, ps, rfl, hT, hf, hp, hk, hg1⟩
  have hX := tx_first hT hf hp hk (by have := Hl.out; omega) hg1.size
  have HX := hidden hX
  have HG1 := hidden hg1
  clear hT hf hp hk hX hg1
  go_wp2_with fail
  refine (past_new HX.out HG1.out.size).mono ?_
  rintro q w2 ⟨rfl, hp2, hg2⟩
  have HP2 := hidden hp2
  have HG2 := hidden hg2
  clear hp2 hg2
  go_wp2_with fail
  have HS2 : Hid (PlatenPiece.Src w2 (.slice pa pn pc) l0) := HSrc.out.below (below_of_grown (grown_tr HG1.out HG2.out))
  refine (join_src _ _ l0 [] w2 (by have := Hl.out; omega) (by simp) HS2.out (Or.inl ⟨rfl, rfl⟩)).mono ?_
  rintro q w3 ⟨x, rfl, hL3⟩
  rw [List.append_nil] at hL3
  obtain ⟨X0, R0, hpr⟩ := start_pr HP2.out HG1.out HG2.out hL3
  obtain ⟨xa, xc, rfl⟩ := row_slice hL3.1
  have HPR := hidden hpr
  have HI := hidden (inv_first (l0 := l0) (by have := Hl.out; omega) Hlt.out)
  clear hpr hL3 HP2 HX HS2
  go_wp2_with fail
  generalize (w3.alloc (.cells #[.slice xa l0.length xc, .slice none 0 0, .slice none 0 0, .slice none 0 0] 51)) = W at *
  go_loopw [12] (fun i wr => ∃ (k : Nat) (s : Hs) (X R : Nat → Prop), k ≤ m ∧ i = .int .i64 (k : Nat) ∧ PR w.heap.size w wr T w1.heap.size w3.heap.size s s (50 * k) X R ∧ Inv l0 s ∧ s.sz ≤ k) (fun i _ => m - (intOf i).toNat)
  case atStart => exact ⟨0, _, X0, R0, Nat.zero_le _, rfl, HPR.out, HI.out, Nat.le_refl _⟩
  case round =>
    obtain ⟨k, s, X, R, hk, rfl, hp, hi, hsz⟩ := hrel
    by_cases hlt : k < m
    · obtain ⟨a, pb, po, ps, ad, ha, hmem, hok, rfl, hP, a0, a1, a2, a3, a4⟩ := acts_at HA.out hp.bl hlt Hm.out
      have hkz : (k : Int) < (m : Int) := by omega
      have Hp := hidden hp
      have Hi := hidden hi
      obtain ⟨ho, hn⟩ := Hall.out a hmem
      clear hp hi ha hmem
      go_wp2_with fail
      refine (does_any Hp.out Hi.out (by omega) (by omega) a hok ho hn).mono ?_
      rintro q w5 ⟨s', X', R', rfl, hp5, hi5, hz5⟩
      have Hp5 := hidden hp5
      have Hi5 := hidden hi5
      clear hp5 hi5 a0 a1 a2 a3 a4
      go_wp2
      go_roundw
      case rel => exact ⟨k + 1, s', X', R', by omega, by go_num, Hp5.out.more (by omega), Hi5.out, by omega⟩
      case measure => simp [intOf]; omega
    · have hkz : ¬ ((k : Int) < (m : Int)) := by omega
      have Hp := hidden hp
      have Hi := hidden hi
      have hmany := hi.many
      clear hp hi
      go_wp2_with fail
      refine (hs_closeX Hp.out.hs (by omega) (by omega)).mono ?_
      rintro q w5 ⟨⟨v5, rfl⟩, hst5⟩
      obtain ⟨X5, hp5, _, _⟩ := Hp.out.p hst5
      have Hp5 := hidden hp5
      clear hst5 hp5
      go_wp2_with fail
      refine (rs_close Hp5.out.rs (by omega) (by omega)).mono ?_
      rintro q w6 ⟨⟨v6, rfl⟩, hst6⟩
      obtain ⟨R6, hp6, _, _⟩ := Hp5.out.r hst6
      have Hp6 := hidden hp6
      clear hst6 hp6
      go_wp2_with fail
      (try simp only [Exit.inBlock, Exit.then])
      refine bodyPost_ret (results_tmp4 rfl _ _ _) rfl ?_
      exact ⟨T, w1.heap.size, w3.heap.size, s.close, X5, R6, rfl, Hp6.out.more (by omega), Hi.out.close, by rw [close_sz]; omega, close_now s⟩
end Go.Proofs.PlatenPiece

namespace Go.Proofs.Ytibdhahkkejnjaa
open Go.ChangeShapes Go.WideShapes Go.ChangeAt Go.RowKit Go.Proofs.PlatenPiece
set_option linter.unusedVariables false
set_option maxRecDepth 100000

theorem c54 : Try.prog.cellsOf 54 = 5 := by kernel_rfl
theorem c3 : Try.prog.cellsOf 3 = 1 := by kernel_rfl
theorem c9 : Try.prog.cellsOf 9 = 1 := by kernel_rfl
theorem exists_list {α : Type} {P : Nat → α → Prop} (n : Nat) (h : ∀ i, i < n → ∃ a, P i a) : ∃ xs : List α, xs.length = n ∧ ∀ i a, xs[i]? = some a → P i a := by
  induction n with
  | zero => exact ⟨[], rfl, fun i a hi => by simp at hi⟩
  | succ n ih =>
    obtain ⟨xs, h1, h2⟩ := ih (fun i hi => h i (by omega))
    obtain ⟨a, ha⟩ := h n (by omega)
    refine ⟨xs ++ [a], by simp [h1], fun i b hb => ?_⟩
    rcases Nat.lt_or_ge i n with q | q
    · rw [List.getElem?_append_left (by omega)] at hb
      exact h2 i b hb
    · rw [List.getElem?_append_right (by omega)] at hb
      have : i - xs.length = 0 := by
        have := (List.getElem?_eq_some_iff.1 hb).1
        simp at this
        omega
      rw [this] at hb
      simp at hb
      subst hb
      have : i = n := by omega
      rw [this]
      exact ha
theorem five {α : Type} {cs : List α} (h : cs.length = 5) : ∃ a b c d e, cs = [a, b, c, d, e] := by
  match cs, h with
  | [a, b, c, d, e], _ => exact ⟨a, b, c, d, e, rfl⟩
theorem int_of {H : Type} {enc : TypeId × Value → H} {W : World} {n : Nat} {c : Value} {k : IntKind} {t : TypeId} {y : DataW H × List MemPlace} (ht : Try.prog.underlying t = some (.int k)) (h : DataW.trod enc Try.prog W 0 (fun _ => true) true n t [c] = some y) : ∃ z, c = .int k z ∧ (Lit.int k z).wf = true := by
  obtain ⟨z, h1, _, h2⟩ := DataW.trod_int ht h
  exact ⟨z, by simpa using h1, h2⟩
theorem str_of' {H : Type} {enc : TypeId × Value → H} {W : World} {n : Nat} {c : Value} {y : DataW H × List MemPlace} (h : DataW.trod enc Try.prog W 0 (fun _ => true) true n 9 [c] = some y) : ∃ s : ByteArray, c = .string s ∧ s.size ≤ maxLen := by
  obtain ⟨s, h1, _, h2⟩ := DataW.trod_string Try.underlying9 h
  exact ⟨s, by simpa using h1, h2⟩

theorem open_acts {H : Type} {enc : TypeId × Value → H} {W : World} {base : Nat} {v : Value} {d : DataW H} {p : List MemPlace} (hv : Value.okWide Try.prog W .any base 42 v)
    (h : DataW.Trod enc Try.prog W 0 (fun _ => true) true 42 v d p) : ∃ xs, IsActs W v xs := by
  obtain ⟨a0, len0, cap0, rfl⟩ := okWide_slice Try.underlying42 hv
  obtain ⟨fuel, hf⟩ := h
  rcases DataW.trod_slice Try.underlying42 hf with ⟨hcs, _⟩ | ⟨a, len, cap, elems, rest, n, _, hcs, _, hb, hl, hm, hlen, hel, _⟩
  · simp [Value.cells] at hcs
    obtain ⟨rfl, rfl, rfl⟩ := hcs
    exact ⟨[], by simp, none, 0, rfl, fun i a hi => by simp at hi⟩
  · simp [Value.cells] at hcs
    obtain ⟨rfl, rfl, rfl⟩ := hcs
    have each : ∀ i, i < len0 → ∃ x : AC, x.ok ∧ AcAt W (a.add (i * 5)) x := by
      intro i hi
      have h1 := hel i hi
      rw [List.getElem?_eq_getElem (by omega), Option.bind_eq_some_iff, c54] at h1
      obtain ⟨cs, h2, h3⟩ := h1
      obtain ⟨_, h4, h5⟩ := World.cells?_some h2
      obtain ⟨x0, x1, x2, x3, x4, rfl⟩ := five h4
      obtain ⟨ys, k, _, _, _, h6, h7⟩ := DataW.trod_struct Try.underlying54 h3
      have g0 := h7 0 _ rfl
      have g1 := h7 1 _ rfl
      have g2 := h7 2 _ rfl
      have g3 := h7 3 _ rfl
      have g4 := h7 4 _ rfl
      have hy : ys.length = 5 := h6
      obtain ⟨y0, y1, y2, y3, y4, rfl⟩ := five hy
      simp only [List.getElem?_cons_zero, List.getElem?_cons_succ] at g0 g1 g2 g3 g4
      obtain ⟨z0, rfl, w0⟩ := int_of Try.underlying5 g0
      obtain ⟨z1, rfl, w1⟩ := int_of Try.underlying3 g1
      obtain ⟨z2, rfl, w2⟩ := int_of Try.underlying3 g2
      obtain ⟨s3, rfl, w3⟩ := str_of' g3
      obtain ⟨s4, rfl, w4⟩ := str_of' g4
      have b0 : 0 ≤ z0 ∧ z0 ≤ 255 := by simpa [Lit.wf, IntKind.min, IntKind.max, IntKind.signed, IntKind.bits] using w0
      have b1 : -9223372036854775808 ≤ z1 ∧ z1 ≤ 9223372036854775807 := by simpa [Lit.wf, IntKind.min, IntKind.max, IntKind.signed, IntKind.bits] using w1
      have b2 : -9223372036854775808 ≤ z2 ∧ z2 ≤ 9223372036854775807 := by simpa [Lit.wf, IntKind.min, IntKind.max, IntKind.signed, IntKind.bits] using w2
      have q0 := h5 0 (by omega)
      have q1 := h5 1 (by omega)
      have q2 := h5 2 (by omega)
      have q3 := h5 3 (by omega)
      have q4 := h5 4 (by omega)
      unfold maxLen at w3 w4
      refine ⟨⟨z0.toNat, z1, z2, s3, s4⟩, ⟨by simp only; omega, b1, b2, by simp only; omega, by simp only; omega⟩, ?_, ?_, ?_, ?_, ?_⟩
      · have e0 : ((z0.toNat : Nat) : Int) = z0 := by omega
        show W.cell? _ = some (.int .u8 ((z0.toNat : Nat) : Int))
        rw [e0]
        simpa [Addr.add] using q0
      · simpa [Addr.add] using q1
      · simpa [Addr.add] using q2
      · simpa [Addr.add] using q3
      · simpa [Addr.add] using q4
    obtain ⟨xs, h1, h2⟩ := exists_list len0 each
    unfold maxLen at hm
    exact ⟨xs, by omega, some a, cap0, by rw [h1], fun i x hx => ⟨(h2 i x hx).1, a, rfl, (h2 i x hx).2⟩⟩
end Go.Proofs.Ytibdhahkkejnjaa
