/- The document's Pieces and Bytes; both tables at first, cell by cell; a region's standing facts may change on the way. -/
import Derived.Test.YtibdhahkkejnjaaPdC
import Derived.Test.YtibdhahkkejnjaaPsB
namespace Go.Proofs.PlatenPiece.Two
open Go Go.RowKit Go.Proofs.PlatenPiece
set_option linter.unusedVariables false
set_option maxRecDepth 100000

theorem held_weak {P : Program} {md : Region.Mode} {ops : Array Oper} {Q : Exit → Act → World → Prop} {S S2 : World → Prop} (hS : ∀ w, S2 w → S w) : ∀ (fuel : Nat) (listed : Array Bool) (a : Act) (w : World), wpAnyH P md ops Q S2 fuel listed a w → wpAnyH P md ops Q S fuel listed a w
  | 0, _, _, _, h => h
  | fuel + 1, _, _, _, h => ⟨h.1, fun i hi => wpOp_mono (fun a' w' h' => ⟨hS _ h'.1, held_weak hS fuel _ a' w' h'.2⟩) (h.2 i hi)⟩

set_option maxHeartbeats 2000000 in
theorem rpieces (B M : Nat) (lv : Value) (cs : List Rc) (N : Int) (w : World) (h : RTab B w M lv cs N) (hs : cs.length ≤ 1000000) :
    Calls Try.prog 18 #[.pointer (some ⟨M, 0, none⟩)] w fun e w' => e = .returned (.int .i64 (cs.countP (·.f) : Nat)) ∧ w' = w := by
  obtain ⟨va, vc, rfl, _, _⟩ := h.form
  have HT := hidden h
  have c0 := h.c0
  obtain ⟨s, hse⟩ : ∃ s, cs.length = s := ⟨_, rfl⟩
  have Hse := hidden hse
  rw [hse] at hs c0
  clear h hse
  go_enter Try.func18, Try.ntmps18
  go_wp2
  go_loopw [3, 4] (fun v i wr => ∃ k C : Nat, k ≤ s ∧ i = .int .i64 (k : Nat) ∧ v = .int .i64 (C : Nat) ∧ C ≤ k ∧ Hid ((cs.take k).countP (·.f) = C) ∧ wr = w) (fun _ i _ => s - (intOf i).toNat)
  case atStart => exact ⟨0, 0, Nat.zero_le _, rfl, rfl, Nat.le_refl _, by unfold Hid; simp, rfl⟩
  case round =>
    obtain ⟨k, C, hk, rfl, rfl, hC, HC, rfl⟩ := hrel
    by_cases hlt : k < s
    · have hkz : (k : Int) < (s : Int) := by omega
      have hks : k < cs.length := by rw [Hse.out]; exact hlt
      obtain ⟨g, rfl, g0, g1, g2⟩ := HT.out.part k _ (List.getElem?_eq_getElem hks)
      have HN : Hid ((cs.take (k + 1)).countP (·.f) = C + (if cs[k].f = true then 1 else 0)) := by
        unfold Hid
        rw [List.take_succ_eq_append_getElem hks, List.countP_append, HC.out, List.countP_cons]
        simp
      obtain ⟨f, hf⟩ : ∃ f, cs[k].f = f := ⟨_, rfl⟩
      rw [hf] at g2 HN
      clear g0 g1
      clear hf HC hks
      cases f with
      | true =>
        go_wp2
        go_roundw
        case rel => exact ⟨k + 1, C + 1, by omega, by go_num, by go_num, by omega, HN.out, by first | exact rfl | exact trivial⟩
        case measure => simp [intOf]; omega
      | false =>
        go_wp2
        go_roundw
        case rel => exact ⟨k + 1, C, by omega, by go_num, rfl, by omega, HN.out, by first | exact rfl | exact trivial⟩
        case measure => simp [intOf]; omega
    · have hkz : ¬ ((k : Int) < (s : Int)) := by omega
      have HE : Hid (C = cs.countP (·.f)) := by
        unfold Hid
        rw [← HC.out, List.take_of_length_le (by rw [Hse.out]; omega)]
      clear HC
      go_wp2
      go_ret
      exact ⟨congrArg (fun n : Nat => Ending.returned (.int .i64 (n : Int))) HE.out, rfl⟩
set_option maxHeartbeats 2000000 in
theorem rbytes (B M : Nat) (lv : Value) (cs : List Rc) (N : Int) (w : World) (h : RTab B w M lv cs N) (hs : cs.length ≤ 1000000) :
    Calls Try.prog 23 #[.pointer (some ⟨M, 0, none⟩)] w fun e w' => ∃ x, e = .returned x ∧ Laid w w' x (cs.map (·.c)) := by
  obtain ⟨va, vc, rfl, _, _⟩ := h.form
  have c0 := h.c0
  have C1 := rslice B M _ cs N 0 cs.length w h hs (by omega)
  rw [List.drop_zero, List.take_of_length_le (by rw [List.length_map]; exact Nat.le_refl _)] at C1
  obtain ⟨s, hse⟩ : ∃ s, cs.length = s := ⟨_, rfl⟩
  rw [hse] at c0 C1 hs
  have H1 := hidden C1
  clear h hse C1
  go_enter Try.func23, Try.ntmps23
  go_wp2_with fail
  refine H1.out.mono ?_
  rintro q w1 ⟨x, rfl, hL⟩
  have HL := hidden hL
  clear hL
  go_wp2
  go_ret
  exact ⟨x, rfl, HL.out⟩
theorem ty_begin {B : Nat} {w : World} {T : Nat} {pv : Value} {ps : List Pc} {l : List Nat} (h : Tab B w T pv ps l.length 0) (hf : PlatenPiece.flat ps = l) (hp : ps.length ≤ 1) (hk : ∀ p ∈ ps, p.k = 0) (hl : l.length ≤ 65536) (hB : B ≤ w.heap.size) : Ty B w T l 0 (PlatenPiece.Own T pv ps) (newC l) 0 := by
  have hs : lenSum ps = l.length := by rw [← hf, flat_len]
  have hpos : ∀ p ∈ ps, 0 < p.l.length := fun p hq => (h.good p hq).2
  refine ⟨pv, ps, rfl, by rw [hs]; exact h, hf, by omega, by omega, by omega, fun p hp => by have := hk p hp; omega, hB, hpos, ?_⟩
  match ps, hp, hk, hf with
  | [], _, _, hf => rw [← hf]; rfl
  | [p], _, hk, hf =>
    have h0 : p.k = 0 := hk p (by simp)
    have hl : p.l = l := by rw [← hf]; simp [flat]
    have := cells_new p.v l
    rw [← this, ← hl, ← h0]
theorem tr_begin {w w1 w2 : World} {T : Nat} {l : List Nat} {O : Nat → Prop} {lv : Value} (hX : Ty w.heap.size w1 T l 0 O (newC l) 0) (hg : w.grownBy w1 none) (hR : RTab w1.heap.size w2 w1.heap.size lv (newC l) 0) (hb : Below w1.heap.size w1 w2) : TR w.heap.size w w2 T w1.heap.size l 0 O lv (newC l) 0 (newC l) 0 := by
  have hg2 : w1.grownBy w2 none := ⟨hb.os, hb.tape, hb.output, hb.size, fun k hk _ => hb.block k hk⟩
  have hg3 := grown_trans hg hg2
  refine ⟨hX.grown hg2, hR.base hg.size, fun k ho hr => ?_, ⟨hg3.os, hg3.tape, hg3.output, hg3.size, fun k hk => hg3.block k hk (by simp)⟩, hg3.size⟩
  have h1 := (hX.own k ho).2
  have h2 := (hR.own k hr).1
  omega
end Go.Proofs.PlatenPiece.Two
