/- What Pieces, newest, has, New come to. -/
import Derived.Test.YtibdhahkkejnjaaTabA
namespace Go.Proofs.PlatenPiece
open Go Go.RowKit
set_option linter.unusedVariables false

theorem pieces_nil (w : World) : Calls Try.prog 17 #[.pointer none] w fun e w' => e = .returned (.int .i64 0) ∧ w' = w := by
  go_enter Try.func17, Try.ntmps17
  go_wp2
  go_ret
  exact ⟨rfl, rfl⟩

theorem pieces_tab (B T : Nat) (pv : Value) (ps : List Pc) (s a : Int) (w : World) (h : Tab B w T pv ps s a) :
    Calls Try.prog 17 #[.pointer (some ⟨T, 0, none⟩)] w fun e w' => e = .returned (.int .i64 ps.length) ∧ w' = w := by
  have h0 := h.c0
  have hf : ∃ va vc, pv = .slice va ps.length vc := by
    rcases h.row.2 with ⟨e, h0⟩ | ⟨g, cap, cur, e, _⟩
    · exact ⟨_, _, by rw [e, h0]⟩
    · exact ⟨_, _, e⟩
  obtain ⟨va, vc, rfl⟩ := hf
  clear h
  generalize ps.length = n at *
  go_enter Try.func17, Try.ntmps17
  go_wp2
  go_ret
  exact ⟨rfl, rfl⟩

theorem grownBy_alloc (w : World) (o : Obj) : w.grownBy (w.alloc o) none :=
  ⟨rfl, rfl, rfl, by simp, fun k hk _ => Below.heap_alloc w o k hk⟩
theorem grownBy_drew (w : World) : w.grownBy w.drew none := ⟨rfl, rfl, rfl, Nat.le_refl _, fun _ _ _ => rfl⟩

set_option maxHeartbeats 2000000 in
set_option maxRecDepth 100000 in
theorem newest_tab (B T : Nat) (pv : Value) (ps : List Pc) (s a : Int) (v : Value) (k : Int) (w : World) (h : Tab B w T pv ps s a) :
    Calls Try.prog 67 #[.pointer (some ⟨T, 0, none⟩), .agg #[v, .int .i64 k]] w fun e w' => e = .returned (.bool (decide (0 < a) && decide (k = a))) ∧ w.grownBy w' none := by
  have hlt := h.lt
  have h2 : (w.alloc (.cells #[v, .int .i64 k] 81)).cell? ⟨T, 2, none⟩ = some (.int .i64 a) := (grownBy_alloc w _).cell h.c2 (by simp)
  have h3 : (w.alloc (.cells #[v, .int .i64 k] 81)).cell? ⟨w.heap.size, 1, none⟩ = some (.int .i64 k) := cell_of_row _ _ _ _ _ _ (heap_alloc_new w _)
  have Hfin : Hid (w.grownBy (w.alloc (.cells #[v, .int .i64 k] 81)).drew none) := ⟨rfl, rfl, rfl, by simp, fun k hk _ => Below.heap_alloc w _ k hk⟩
  clear h
  by_cases ha : 0 < a
  · by_cases hk : k = a
    · subst hk
      go_enter Try.func67, Try.ntmps67
      go_wp2_with fail
      go_region_held3 (fun u => u.cell? ⟨T, 2, none⟩ = some (.int .i64 k) ∧ u.cell? ⟨w.heap.size, 1, none⟩ = some (.int .i64 k)) (first | assumption | exact ⟨h2, h3⟩) (fail)
      go_wp2
      go_ret
      exact ⟨by simp [ha], Hfin.out⟩
    · go_enter Try.func67, Try.ntmps67
      go_wp2_with fail
      go_region_held3 (fun u => u.cell? ⟨T, 2, none⟩ = some (.int .i64 a) ∧ u.cell? ⟨w.heap.size, 1, none⟩ = some (.int .i64 k)) (first | assumption | exact ⟨h2, h3⟩) (fail)
      go_wp2
      go_ret
      exact ⟨by simp [ha, hk], Hfin.out⟩
  · have ha' : decide (0 < a) = false := decide_eq_false ha
    have hb : (decide (0 < a) && decide (k = a)) = false := by rw [ha']; rfl
    rw [hb]
    clear hb
    go_enter Try.func67, Try.ntmps67
    go_wp2_with fail
    go_region
    go_wp2
    go_ret
    exact ⟨rfl, Hfin.out⟩

set_option maxHeartbeats 2000000 in
/-- The same whatever Len is: for a table and for none. -/
theorem has_of (t : Value) (s i n : Int) (w : World) (hlen : Calls Try.prog 20 #[t] w fun e w' => e = .returned (.int .i64 s) ∧ w' = w) (hs0 : 0 ≤ s) (hs : s ≤ 1000000) :
    Calls Try.prog 65 #[t, .int .i64 i, .int .i64 n] w fun e w' => e = .returned (.bool (decide (0 ≤ i ∧ i ≤ s ∧ 0 ≤ n ∧ n ≤ s - i))) ∧ w' = w := by
  have Hlen := hidden hlen
  obtain ⟨r, hr⟩ : ∃ r, decide (0 ≤ i ∧ i ≤ s ∧ 0 ≤ n ∧ n ≤ s - i) = r := ⟨_, rfl⟩
  have Hr := hidden hr
  rw [hr]
  clear hlen hr
  by_cases h1 : i < 0
  · obtain rfl : r = false := by rw [← Hr.out]; exact decide_eq_false (by omega)
    go_enter Try.func65, Try.ntmps65
    go_wp2
    go_ret
    exact ⟨rfl, rfl⟩
  · have h1' : 0 ≤ i := by omega
    by_cases h2 : i ≤ s
    · by_cases h3 : n < 0
      · obtain rfl : r = false := by rw [← Hr.out]; exact decide_eq_false (by omega)
        go_enter Try.func65, Try.ntmps65
        go_wp2_with fail
        refine Hlen.out.mono ?_
        rintro e w' ⟨rfl, rfl⟩
        go_wp2
        go_ret
        exact ⟨rfl, rfl⟩
      · have h3' : 0 ≤ n := by omega
        have hw : IntKind.i64.wrap (s - i) = s - i := IntWalk.i64_in _ (by omega)
        by_cases h4 : n ≤ s - i
        · obtain rfl : r = true := by rw [← Hr.out]; exact decide_eq_true (by omega)
          go_enter Try.func65, Try.ntmps65
          go_wp2_with fail
          refine Hlen.out.mono ?_
          rintro e w' ⟨rfl, rfl⟩
          go_wp2_with fail
          refine Hlen.out.mono ?_
          rintro e w' ⟨rfl, rfl⟩
          go_wp2
          go_ret
          exact ⟨rfl, rfl⟩
        · obtain rfl : r = false := by rw [← Hr.out]; exact decide_eq_false (by omega)
          go_enter Try.func65, Try.ntmps65
          go_wp2_with fail
          refine Hlen.out.mono ?_
          rintro e w' ⟨rfl, rfl⟩
          go_wp2_with fail
          refine Hlen.out.mono ?_
          rintro e w' ⟨rfl, rfl⟩
          go_wp2
          go_ret
          exact ⟨by simp [h4], rfl⟩
    · obtain rfl : r = false := by rw [← Hr.out]; exact decide_eq_false (by omega)
      go_enter Try.func65, Try.ntmps65
      go_wp2_with fail
      refine Hlen.out.mono ?_
      rintro e w' ⟨rfl, rfl⟩
      go_wp2
      go_ret
      exact ⟨rfl, rfl⟩

theorem Src.form {w : World} {v : Value} {l : List Nat} (h : Src w v l) : ∃ va vc, v = .slice va l.length vc := by
  rcases h with ⟨rfl, rfl⟩ | ⟨ad, cap, rfl, _⟩
  · exact ⟨_, _, rfl⟩
  · exact ⟨_, _, rfl⟩

set_option maxHeartbeats 2000000 in
theorem new_empty (v : Value) (w : World) (hs : Src w v []) :
    Calls Try.prog 15 #[v] w fun e w' => e = .returned (.tuple #[.pointer (some ⟨w.heap.size, 0, none⟩), .int .i64 0]) ∧ Tab w.heap.size w' w.heap.size (.slice none 0 0) [] 0 0 ∧ w.grownBy w' none := by
  obtain ⟨va, vc, rfl⟩ := hs.form
  clear hs
  simp only [List.length_nil]
  go_enter Try.func15, Try.ntmps15
  go_wp2
  go_ret2
  refine ⟨rfl, ?_, ?_⟩
  · exact ⟨Nat.le_refl _, heap_alloc_new w _, World.ownsRow_nil _ _ _ _, by simp, by simp⟩
  · exact grownBy_alloc _ _

set_option maxHeartbeats 2000000 in
theorem new_long (v : Value) (l : List Nat) (w : World) (hs : Src w v l) (hl : 65536 < l.length) (hl2 : l.length ≤ 1000000) :
    Calls Try.prog 15 #[v] w fun e w' => e = .returned (.tuple #[.pointer none, .int .i64 4]) ∧ w' = w := by
  obtain ⟨va, vc, rfl⟩ := hs.form
  clear hs
  generalize l.length = n at *
  go_enter Try.func15, Try.ntmps15
  go_wp2
  go_ret2
  exact ⟨rfl, rfl⟩

theorem tab_first (B T Q : Nat) (w1 : World) (l : List Nat) (n : Nat) (hn : l.length = n) (h0 : 0 < n) (hl : n ≤ 65536)
    (hT : w1.heap[T]? = some (Obj.cells #[Value.slice none 0 0, Value.int IntKind.i64 n, Value.int IntKind.i64 0] 78 (0, 0)))
    (hq : w1.heap[Q]? = some (.cells (bytesV l).toArray 5 (0, 0))) (hB : B ≤ T) (hBQ : B ≤ Q) :
    Tab B ((w1.alloc (.cells #[Value.slice (some ⟨Q, 0, none⟩) n n, Value.int .i64 0] 81)).setCell ⟨T, 0, none⟩ (.slice (some ⟨w1.heap.size, 0, none⟩) 1 1)) T (.slice (some ⟨w1.heap.size, 0, none⟩) 1 1) [⟨.slice (some ⟨Q, 0, none⟩) n n, l, 0⟩] n 0 := by
  have hTlt : T < w1.heap.size := (Array.getElem?_eq_some_iff.1 hT).1
  have hQlt : Q < w1.heap.size := (Array.getElem?_eq_some_iff.1 hq).1
  have hTQ : Q ≠ T := by
    intro e
    rw [e, hT] at hq
    simp at hq
  refine ⟨hB, ?_, ?_, ?_, by simp⟩
  · rw [heap_setCell_same _ T 0 #[Value.slice none 0 0, Value.int IntKind.i64 n, Value.int IntKind.i64 0] 78 _ (by rw [Below.heap_alloc _ _ _ hTlt]; exact hT)]
    rfl
  · refine ⟨rfl, Or.inr ⟨w1.heap.size, 1, #[Value.slice (some ⟨Q, 0, none⟩) n n, Value.int .i64 0], rfl, by omega, ?_, Nat.le_refl _, by unfold maxLen; omega, rfl, rfl⟩⟩
    rw [heap_setCell_other _ _ _ _ (by simp; omega)]
    exact heap_alloc_new w1 _
  · intro p hp
    simp only [List.mem_singleton] at hp
    subst hp
    refine ⟨⟨by simp [bytesV_len], Or.inr ⟨Q, n, (bytesV l).toArray, by simp [hn], hBQ, ?_, by simp [hn], by unfold maxLen; omega, by simp [bytesV_len, hn], by rw [List.take_of_length_le (by simp [bytesV_len])]⟩⟩, by simp [hn]; omega⟩
    rw [heap_setCell_other _ _ _ _ hTQ, Below.heap_alloc _ _ _ hQlt]
    exact hq

set_option maxHeartbeats 2000000 in
theorem new_some (v : Value) (l : List Nat) (w : World) (hs : Src w v l) (h0 : 0 < l.length) (hl : l.length ≤ 65536) :
    Calls Try.prog 15 #[v] w fun e w' => e = .returned (.tuple #[.pointer (some ⟨w.heap.size, 0, none⟩), .int .i64 0]) ∧ (∃ pv q, Tab w.heap.size w' w.heap.size pv [⟨q, l, 0⟩] l.length 0) ∧ w.grownBy w' none := by
  have HS := hidden hs
  obtain ⟨va, vc, rfl⟩ := hs.form
  clear hs
  have hown := fun w1 h1 => own_any _ l w1 (by omega) (HS.out.below (below_of_grown (w' := w1) h1))
  have Hown := hidden hown
  clear hown
  obtain ⟨n, hn⟩ : ∃ n, l.length = n := ⟨_, rfl⟩
  rw [hn] at h0 hl Hown HS
  rw [hn]
  have HN := hidden hn
  clear hn
  go_enter Try.func15, Try.ntmps15
  go_wp2_with fail
  refine (Hown.out _ (grownBy_alloc _ _)).mono ?_
  rintro e w1 ⟨rfl, hq, hg⟩
  obtain ⟨Q, hQ⟩ : ∃ Q, (w.alloc (Obj.cells #[Value.slice none 0 0, Value.int IntKind.i64 n, Value.int IntKind.i64 0] 78)).heap.size = Q := ⟨_, rfl⟩
  have hQ1 : Q = w.heap.size + 1 := by rw [← hQ]; simp
  rw [hQ] at hq ⊢
  have hT : w1.heap[w.heap.size]? = some (Obj.cells #[Value.slice none 0 0, Value.int IntKind.i64 n, Value.int IntKind.i64 0] 78 (0, 0)) := by
    rw [hg.block _ (by simp) (by simp)]
    exact heap_alloc_new w _
  have hTlt : w.heap.size < w1.heap.size := (Array.getElem?_eq_some_iff.1 hT).1
  have hc : w1.cell? ⟨w.heap.size, 0, none⟩ = some (Value.slice none 0 0) := by simp [World.cell?, hT]
  have hfz : w1.frozen? ⟨w.heap.size, 0, none⟩ = false := by simp [World.frozen?, hT]
  have hc' := (grownBy_alloc w1 (.cells #[Value.slice (some ⟨Q, 0, none⟩) n n, Value.int .i64 0] 81)).cell hc (by simp)
  have Hfin := hidden (tab_first w.heap.size w.heap.size Q w1 l n HN.out h0 (by omega) hT hq (Nat.le_refl _) (by omega))
  have Hg : Hid (w.grownBy w1 none) := by
    have a := grownBy_alloc w (Obj.cells #[Value.slice none 0 0, Value.int IntKind.i64 n, Value.int IntKind.i64 0] 78)
    exact ⟨hg.os.trans a.os, hg.tape.trans a.tape, hg.output.trans a.output, Nat.le_trans a.size hg.size, fun k hk hne => (hg.block k (Nat.lt_of_lt_of_le hk a.size) hne).trans (a.block k hk hne)⟩
  rw [World.setCell_alloc_past _ _ _ _ hTlt] at Hfin
  clear hq hg hT hQ
  subst hQ1
  go_wp2
  go_ret2
  refine ⟨rfl, ⟨_, _, Hfin.out⟩, ?_⟩
  have a := Hg.out
  exact ⟨a.os, a.tape, a.output, by simp; omega, fun k hk hne => by
    rw [Below.heap_alloc _ _ _ (by simp; omega), heap_setCell_other _ _ _ _ (by simp; omega)]
    exact a.block k hk hne⟩
end Go.Proofs.PlatenPiece
