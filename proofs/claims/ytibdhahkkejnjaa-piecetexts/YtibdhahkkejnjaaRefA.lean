/- The document's table of cells, in memory; what its Has and its Slice come to. -/
import Derived.Test.YtibdhahkkejnjaaBackA
namespace Go.Proofs.PlatenPiece
open Go Go.RowKit
set_option linter.unusedVariables false
set_option maxRecDepth 100000

/-- A cell of the document's table: its byte, its number, whether a piece begins with it. -/
structure Rc where
  c : Nat
  n : Int
  f : Bool
def rcV (x : Rc) : List Value := [.int .u8 x.c, .int .i64 x.n, .bool x.f]
def rowC (cs : List Rc) : List Value := cs.flatMap rcV
theorem rowC_len (cs : List Rc) : (rowC cs).length = cs.length * 3 := by
  induction cs with
  | nil => rfl
  | cons p ps ih => simp only [rowC, List.flatMap_cons, List.length_append, rcV, List.length_cons, List.length_nil] at ih ⊢; omega
theorem rowC_app (ps qs : List Rc) : rowC (ps ++ qs) = rowC ps ++ rowC qs := by simp [rowC]
theorem rowC_take (ps : List Rc) (i : Nat) : (rowC ps).take (i * 3) = rowC (ps.take i) := by
  rcases Nat.lt_or_ge i ps.length with h | h
  · conv => lhs; rw [← List.take_append_drop i ps, rowC_app]
    have e : (rowC (ps.take i)).length = i * 3 := by rw [rowC_len, List.length_take]; omega
    rw [List.take_append_of_le_length (by omega), List.take_of_length_le (by omega)]
  · rw [List.take_of_length_le (by rw [rowC_len]; omega), List.take_of_length_le h]
theorem rowC_drop (ps : List Rc) (i : Nat) (h : i ≤ ps.length) : (rowC ps).drop (i * 3) = rowC (ps.drop i) := by
  conv => lhs; rw [← List.take_append_drop i ps, rowC_app]
  have e : (rowC (ps.take i)).length = i * 3 := by rw [rowC_len, List.length_take]; omega
  rw [List.drop_append, List.drop_of_length_le (by omega), List.nil_append, e, Nat.sub_self, List.drop_zero]
theorem rowC_at (ps : List Rc) (i : Nat) (p : Rc) (h : ps[i]? = some p) : (rowC ps)[i * 3]? = some (.int .u8 p.c) ∧ (rowC ps)[i * 3 + 1]? = some (.int .i64 p.n) ∧ (rowC ps)[i * 3 + 2]? = some (.bool p.f) := by
  have hlt : i < ps.length := (List.getElem?_eq_some_iff.1 h).1
  have hp : ps[i] = p := (List.getElem?_eq_some_iff.1 h).2
  have hd := (rowC_drop ps i (by omega)).symm
  rw [List.drop_eq_getElem_cons hlt, hp] at hd
  refine ⟨?_, ?_, ?_⟩
  · rw [show i * 3 = i * 3 + 0 by omega, ← List.getElem?_drop, ← hd]; rfl
  · rw [← List.getElem?_drop, ← hd]; rfl
  · rw [← List.getElem?_drop, ← hd]; rfl

structure RTab (B : Nat) (w : World) (M : Nat) (lv : Value) (cs : List Rc) (N : Int) : Prop where
  low : B ≤ M
  head : w.heap[M]? = some (.cells #[lv, .int .i64 N] 38 (0, 0))
  row : w.ownsRow B 83 3 lv cs.length (rowC cs)
theorem RTab.lt {B : Nat} {w : World} {M : Nat} {lv : Value} {cs : List Rc} {N : Int} (h : RTab B w M lv cs N) : M < w.heap.size := (Array.getElem?_eq_some_iff.1 h.head).1
theorem RTab.grown {B : Nat} {w w' : World} {M : Nat} {lv : Value} {cs : List Rc} {N : Int} (h : RTab B w M lv cs N) (hg : w.grownBy w' none) : RTab B w' M lv cs N where
  low := h.low
  head := by rw [hg.block M h.lt (by simp)]; exact h.head
  row := h.row.kept hg (by cases lv.ownBlock <;> simp)
theorem RTab.c0 {B : Nat} {w : World} {M : Nat} {lv : Value} {cs : List Rc} {N : Int} (h : RTab B w M lv cs N) : w.cell? ⟨M, 0, none⟩ = some lv := by simp [World.cell?, h.head]
theorem RTab.c1 {B : Nat} {w : World} {M : Nat} {lv : Value} {cs : List Rc} {N : Int} (h : RTab B w M lv cs N) : w.cell? ⟨M, 1, none⟩ = some (.int .i64 N) := by simp [World.cell?, h.head]
theorem RTab.form {B : Nat} {w : World} {M : Nat} {lv : Value} {cs : List Rc} {N : Int} (h : RTab B w M lv cs N) : ∃ va vc, lv = .slice va cs.length vc ∧ cs.length ≤ vc ∧ vc ≤ 9223372036854775807 := by
  rcases h.row.2 with ⟨e, h0⟩ | ⟨g, cap, cur, e, _, _, h1, h2, _⟩
  · exact ⟨_, _, by rw [e, h0], by omega, by omega⟩
  · exact ⟨_, _, e, h1, by unfold maxLen at h2; omega⟩
theorem RTab.part {B : Nat} {w : World} {M : Nat} {va : Option Addr} {vc : Nat} {cs : List Rc} {N : Int} (h : RTab B w M (.slice va cs.length vc) cs N) (i : Nat) (p : Rc) (hp : cs[i]? = some p) :
    ∃ g, va = some ⟨g, 0, none⟩ ∧ w.cell? ⟨g, i * 3, none⟩ = some (.int .u8 p.c) ∧ w.cell? ⟨g, i * 3 + 1, none⟩ = some (.int .i64 p.n) ∧ w.cell? ⟨g, i * 3 + 2, none⟩ = some (.bool p.f) := by
  have hlt : i < cs.length := (List.getElem?_eq_some_iff.1 hp).1
  have hc := fun g => h.row.cells (g := g)
  rcases h.row.2 with ⟨e, h0⟩ | ⟨g, cap, cur, e, _⟩
  · omega
  · simp only [Value.slice.injEq] at e
    obtain ⟨rfl, _, rfl⟩ := e
    have hc := hc g rfl
    obtain ⟨h0, h1, h2⟩ := rowC_at cs i p hp
    have a0 := hc _ _ h0
    have a1 := hc _ _ h1
    have a2 := hc _ _ h2
    rw [Addr.add_lit, Nat.zero_add] at a0 a1 a2
    exact ⟨g, rfl, a0, a1, a2⟩

set_option maxHeartbeats 2000000 in
theorem rhas (B M : Nat) (lv : Value) (cs : List Rc) (N : Int) (i n : Int) (w : World) (h : RTab B w M lv cs N) (hs : cs.length ≤ 1000000) :
    Calls Try.prog 49 #[.pointer (some ⟨M, 0, none⟩), .int .i64 i, .int .i64 n] w fun e w' => e = .returned (.bool (decide (0 ≤ i ∧ i ≤ (cs.length : Int) ∧ 0 ≤ n ∧ n ≤ (cs.length : Int) - i))) ∧ w' = w := by
  obtain ⟨va, vc, rfl, _, _⟩ := h.form
  have c0 := h.c0
  obtain ⟨s, hse⟩ : ∃ s, cs.length = s := ⟨_, rfl⟩
  rw [hse] at c0 hs
  obtain ⟨r, hr⟩ : ∃ r, decide (0 ≤ i ∧ i ≤ (s : Int) ∧ 0 ≤ n ∧ n ≤ (s : Int) - i) = r := ⟨_, rfl⟩
  have Hr := hidden hr
  rw [hse, hr]
  clear h hr hse
  by_cases h1 : i < 0
  · obtain rfl : r = false := by rw [← Hr.out]; exact decide_eq_false (by omega)
    go_enter Try.func49, Try.ntmps49
    go_wp2
    go_ret
    exact ⟨rfl, rfl⟩
  · have h1' : 0 ≤ i := by omega
    by_cases h2 : i ≤ s
    · by_cases h3 : n < 0
      · obtain rfl : r = false := by rw [← Hr.out]; exact decide_eq_false (by omega)
        go_enter Try.func49, Try.ntmps49
        go_wp2
        go_ret
        exact ⟨rfl, rfl⟩
      · have h3' : 0 ≤ n := by omega
        have hw : IntKind.i64.wrap ((s : Int) - i) = (s : Int) - i := IntWalk.i64_in _ (by omega)
        by_cases h4 : n ≤ (s : Int) - i
        · obtain rfl : r = true := by rw [← Hr.out]; exact decide_eq_true (by omega)
          go_enter Try.func49, Try.ntmps49
          go_wp2
          go_ret
          exact ⟨rfl, rfl⟩
        · obtain rfl : r = false := by rw [← Hr.out]; exact decide_eq_false (by omega)
          go_enter Try.func49, Try.ntmps49
          go_wp2
          go_ret
          exact ⟨rfl, rfl⟩
    · obtain rfl : r = false := by rw [← Hr.out]; exact decide_eq_false (by omega)
      go_enter Try.func49, Try.ntmps49
      go_wp2
      go_ret
      exact ⟨rfl, rfl⟩

theorem bytesV_snoc (l : List Nat) (x : Nat) : bytesV (l ++ [x]) = bytesV l ++ [.int .u8 x] := by simp [bytesV]

set_option maxHeartbeats 2000000 in
theorem rslice (B M : Nat) (lv : Value) (cs : List Rc) (N : Int) (i n : Nat) (w : World) (h : RTab B w M lv cs N) (hs : cs.length ≤ 1000000) (hin : i + n ≤ cs.length) :
    Calls Try.prog 50 #[.pointer (some ⟨M, 0, none⟩), .int .i64 i, .int .i64 n] w fun e w' => ∃ x, e = .returned x ∧ Laid w w' x (((cs.map (·.c)).drop i).take n) := by
  obtain ⟨i0, hi, hz0, hz1, hz2⟩ := info_parts info5
  obtain ⟨va, vc, rfl, _, _⟩ := h.form
  have HT := hidden h
  obtain ⟨s, hse⟩ : ∃ s, cs.length = s := ⟨_, rfl⟩
  have Hse := hidden hse
  rw [hse] at hs hin
  clear h hse
  have hw : IntKind.i64.wrap ((i : Int) + (n : Int)) = (i : Int) + (n : Int) := IntWalk.i64_in _ (by omega)
  go_enter Try.func50, Try.ntmps50
  go_wp2
  go_loopw [7, 8] (fun v j wr => ∃ J : Nat, i ≤ J ∧ J ≤ i + n ∧ j = .int .i64 (J : Nat) ∧ Laid w wr v (((cs.map (·.c)).drop i).take (J - i))) (fun _ j _ => i + n - (intOf j).toNat)
  case atStart => exact ⟨i, Nat.le_refl _, by omega, rfl, by rw [Nat.sub_self, List.take_zero]; exact ⟨World.ownsRow_nil _ _ _ _, Below.refl _ _⟩⟩
  case round =>
    obtain ⟨J, hJ1, hJ2, rfl, hL⟩ := hrel
    by_cases hlt : J < i + n
    · have hJs : J < cs.length := by rw [Hse.out]; omega
      have hTw := HT.out.grown (grown_of_below hL.2)
      obtain ⟨g, rfl, g0, _, _⟩ := hTw.part J _ (List.getElem?_eq_getElem hJs)
      have c0 := hTw.c0
      rw [Hse.out] at c0
      have hJz : (J : Int) < (i : Int) + (n : Int) := by omega
      have hJs2 : J < s := by omega
      have HN : Hid (((cs.map (·.c)).drop i).take (J + 1 - i) = ((cs.map (·.c)).drop i).take (J - i) ++ [cs[J].c]) := by
        unfold Hid
        rw [show J + 1 - i = J - i + 1 by omega, List.take_add_one, List.getElem?_drop, show i + (J - i) = J by omega, List.getElem?_map, List.getElem?_eq_getElem hJs]
        rfl
      have hlen : (((cs.map (·.c)).drop i).take (J - i)).length = J - i := by rw [List.length_take, List.length_drop, List.length_map, Hse.out]; omega
      obtain ⟨x, hx⟩ : ∃ x, cs[J].c = x := ⟨_, rfl⟩
      rw [hx] at g0 HN
      obtain ⟨LL, hLL⟩ : ∃ LL, ((cs.map (·.c)).drop i).take (J - i) = LL := ⟨_, rfl⟩
      rw [hLL] at hL hlen HN
      obtain ⟨hown, hnx⟩ := hL
      rw [hlen] at hown
      clear hTw hx hLL
      go_wp2_with (at_builtin; refine wpList_append_own _ rfl _ _ 22 rfl w.heap.size 5 i0 (.int .u8 0) 1 1 Try.underlying22 hi hz0 hz1 hz2 rfl (by decide) _ _ _ rfl (hown.alloc _) ⟨wr.heap.size, 0, none⟩ 1 1 [.int .u8 x] rfl rfl ?c1 ?c2 ?c3 ?c4 ?c5 ?_)
      case c1 =>
        intro j u hj
        match j, hj with
        | 0, hj => simp at hj; subst hj; simp [Addr.add]
      case c2 => intro u hu; simp at hu; subst hu; rfl
      case c3 => unfold maxLen; omega
      case c4 => omega
      case c5 => have := hnx.size; simp; omega
      intro v' w1 hown' hgrow _
      have hb1 := below_app (B := w.heap.size) (by have := hnx.size; simp; omega) (hown.alloc _) (hnx.alloc hnx.size _) hgrow
      have Hw1 : Hid (Laid w w1 v' (((cs.map (·.c)).drop i).take (J + 1 - i))) := by
        unfold Hid
        rw [HN.out]
        refine ⟨?_, hb1⟩
        rw [List.length_append, hlen, bytesV_snoc]
        exact hown'
      clear hown' hgrow hown hnx hb1 g0 c0
      go_wp2
      go_roundw
      case rel => exact ⟨J + 1, by omega, by omega, by go_num, Hw1.out⟩
      case measure => simp [intOf]; omega
    · have hJz : ¬ ((J : Int) < (i : Int) + (n : Int)) := by omega
      have HL := hidden hL
      have hJe : J - i = n := by omega
      rw [hJe] at HL
      clear hL hJe
      go_wp2
      go_ret
      exact ⟨_, rfl, HL.out⟩
end Go.Proofs.PlatenPiece
