/- What slices.Delete comes to, for elements of two cells. -/
import Derived.Test.YtibdhahkkejnjaaTabO
import Derived.Lib.SliceRun
import Derived.Deep.RegionLaw
namespace Go.Proofs.PlatenPiece
open Go Go.RowKit
set_option linter.unusedVariables false
set_option maxRecDepth 100000
variable {P : Program}

/-- 'clear(s)' over a part of a row. -/
theorem run_clear_row (w : World) (t e ty : TypeId) (z : Value) (size : Nat) (ht : P.underlying t = some (.slice e)) (hv : ∀ w, (zeroValue e).run P w = .ok z w) (hzs : z.cells.size = size) (hs0 : 0 < size) (h1 : ∀ k, k < size → (z.cells[k]!).oneCell' = true)
    (g o n c : Nat) (cur : Array Value) (te : TypeId) (hg : w.heap[g]? = some (.cells cur te (0, 0))) (hn : 0 < n) (hfit : o + n * size ≤ cur.size) :
    (Builtin.clear_ #[t] ty #[.slice (some ⟨g, o, none⟩) n c]).run P w = .ok (.tuple #[]) (w.setRow g (cur.toList.take o ++ (Builtin.zeroCells z.cells n).toList ++ cur.toList.drop (o + n * size)).toArray) := by
  have hl : (Builtin.zeroCells z.cells n).toList.length = n * size := by simp [Builtin.zeroCells, hzs]
  have hone : ∀ v ∈ (Builtin.zeroCells z.cells n).toList, v.oneCell' = true := by
    intro v hv'
    simp only [Builtin.zeroCells, Array.toList_map, List.mem_map] at hv'
    obtain ⟨k, _, rfl⟩ := hv'
    rw [hzs]
    exact h1 _ (Nat.mod_lt _ hs0)
  have hst := run_storeCells_at P g o te (Builtin.zeroCells z.cells n).toList 0 cur w hg (by rw [hl]; simpa using hfit) hone
  rw [hl] at hst
  obtain ⟨m, rfl⟩ : ∃ m, n = m + 1 := ⟨n - 1, by omega⟩
  simp only [Nat.add_zero] at hst
  simp [Builtin.clear_, run_underlying ht, hv, hst]

/-- append where there is room, onto a row, as a step of a region that draws. -/
theorem step_append_row {ops : Array Oper} {o : Oper} {a : Act} {w : World} {K : Act → World → Prop} {Q : Exit → Act → World → Prop} {E : Prop}
    (hgd : o.guard = none) (s x : Operand) (t : TypeId) (hop : o.op = Op.call { callee := Callee.builtin Builtin.append, args := #[s, x], argTypes := #[t, t] })
    (e : TypeId) (i : TypeInfo) (size : Nat) (h1 : P.underlying t = some (.slice e)) (h2 : P.info? e = some i) (h4 : i.size = size)
    (g n cap : Nat) (cur : Array Value) (hg : w.heap[g]? = some (.cells cur e (0, 0))) (hs : a.eval s = .slice (some ⟨g, 0, none⟩) n cap)
    (ad : Addr) (m c : Nat) (news : List Value) (hx : a.eval x = .slice (some ad) m c) (hn : news.length = m * size) (hc : ∀ j u, news[j]? = some u → w.cell? (ad.add j) = some u) (h1c : ∀ u ∈ news, u.oneCell' = true)
    (hroom : n + m ≤ cap) (hfit : n * size + news.length ≤ cur.size)
    (hK : ∀ w', Hid (w'.heap[g]? = some (.cells (splice cur.toList (n * size) news).toArray e (0, 0))) → Hid (w.grownBy w' (some g)) → K (a.put o.dst (.slice (some ⟨g, 0, none⟩) (n + m) cap)) w') :
    if Region.wanted o (yielded ops a.tmps) = true then Oper.wp P o a w K Q else E := by
  have hw : Region.wanted o (yielded ops a.tmps) = true := by simp [Region.wanted, hgd]
  rw [if_pos hw]
  subst h4
  have hrun := run_append_room (P := P) w t o.type e i h1 h2 g n cap cur hg ad m c news hn hc h1c hroom hfit
  unfold Oper.wp
  simp [execOp, hop, resolve, invoke, builtin, hs, hx, hrun, Result.andThen]
  refine hK _ ?_ (grownBy_setRow _ _ _)
  show (w.setRow g _).heap[g]? = _
  rw [setRow_heap w g cur _ e _ hg]
  simp [splice]

set_option maxHeartbeats 2000000 in
/-- Nothing is taken out. -/
theorem sdel_same (va : Option Addr) (n cap i : Nat) (w : World) (hi : i ≤ n) (hc : n ≤ cap) (hm : cap ≤ 9223372036854775807) :
    Calls Try.prog 69 #[.slice va n cap, .int .i64 i, .int .i64 i] w fun e w' => e = .returned (.slice va n cap) ∧ w' = w := by
  cases va with
  | none =>
    go_enter Try.func69, Try.ntmps69
    go_wp2
    all_goals (go_ret; exact ⟨rfl, rfl⟩)
  | some a =>
    go_enter Try.func69, Try.ntmps69
    go_wp2
    all_goals (go_ret; exact ⟨rfl, rfl⟩)

set_option maxHeartbeats 4000000 in
set_option maxRecDepth 100000 in
theorem sdel_row (g n cap i j B : Nat) (xs : List Value) (w : World) (hij : i < j) (hj : j ≤ n) (hn : n ≤ 1000000) (hown : w.ownsRow B 81 2 (.slice (some ⟨g, 0, none⟩) n cap) n xs) (hxs : ∀ u ∈ xs, u.oneCell' = true) :
    Calls Try.prog 69 #[.slice (some ⟨g, 0, none⟩) n cap, .int .i64 i, .int .i64 j] w fun e w' => e = .returned (.slice (some ⟨g, 0, none⟩) (n - (j - i)) cap) ∧ w'.ownsRow B 81 2 (.slice (some ⟨g, 0, none⟩) (n - (j - i)) cap) (n - (j - i)) (xs.take (2 * i) ++ xs.drop (2 * j)) ∧ w.grownBy w' (some g) := by
  obtain ⟨i0, hi0, hz0, hz1, hz2⟩ := info_parts info57
  have hcells : ∀ j u, xs[j]? = some u → w.cell? ((⟨g, 0, none⟩ : Addr).add j) = some u := hown.cells rfl
  obtain ⟨hxl, hown2⟩ := hown
  rcases hown2 with ⟨h0, _⟩ | ⟨g', cap', cur, he, hB, hh, hnc, hcm, hcs, htk⟩
  · cases h0
  simp only [Value.slice.injEq, Option.some.injEq, Addr.mk.injEq, and_true, true_and] at he
  obtain ⟨rfl, rfl⟩ := he
  have hcm' : cap ≤ 9223372036854775807 := by unfold maxLen at hcm; omega
  obtain ⟨news, hnews⟩ : ∃ news, news = xs.drop (2 * j) := ⟨_, rfl⟩
  have hlen : news.length = (n - j) * 2 := by rw [hnews, List.length_drop, hxl]; omega
  obtain ⟨A, hA, hsrc⟩ : ∃ A : Addr, (if cap = j then some (⟨g, 0, none⟩ : Addr) else some ⟨g, j * 2, none⟩) = some A ∧ Hid (∀ t u, news[t]? = some u → w.drew.cell? (A.add t) = some u) := by
    by_cases h : cap = j
    · refine ⟨⟨g, 0, none⟩, by simp [h], fun t u hu => ?_⟩
      have h0 : news.length = 0 := by rw [hlen]; omega
      rw [List.length_eq_zero_iff.1 h0] at hu
      simp at hu
    · refine ⟨⟨g, j * 2, none⟩, by simp [h], fun t u hu => ?_⟩
      rw [hnews, List.getElem?_drop] at hu
      have := hcells _ _ hu
      rw [Addr.add_lit] at this ⊢
      rw [show j * 2 + t = 0 + (2 * j + t) by omega]
      exact this
  have s1 := hidden hlen
  have s2 : Hid (∀ u ∈ news, u.oneCell' = true) := fun u hu => hxs u (by rw [hnews] at hu; exact List.mem_of_mem_drop hu)
  have hh' : Hid (w.drew.heap[g]? = some (.cells cur 81 (0, 0))) := hh
  have s3 : Hid (i * 2 + news.length ≤ cur.size) := by show i * 2 + news.length ≤ cur.size; rw [hlen, hcs]; omega
  have hic : i ≤ cap := by omega
  have hjc : j ≤ cap := by omega
  have Hcs := hidden hcs
  have Htk := hidden htk
  have Hne := hidden hnews
  have Hxl := hidden hxl
  clear hh hlen hcells hxs hcs htk hnews hxl
  go_enter Try.func69, Try.ntmps69
  go_wp2_with fail
  have hm0 : i + (n - j) ≤ cap := by omega
  go_region_law (refine step_append_row rfl (.tmp 22) (.tmp 25) 76 rfl 81 i0 2 Try.underlying76 hi0 hz1 g i cap cur hh'.out (by simp [Act.eval, Act.put]) A (n - j) (cap - j) news (by simp [Act.eval, Act.put]) s1.out hsrc.out s2.out hm0 s3.out ?_; intro w1 hq1 hg1)
  have hsp : (splice cur.toList (i * 2) news).toArray.size = cap * 2 := by
    have h1 := s1.out; have h2 := Hcs.out; have h3 := s3.out
    simp only [splice, List.size_toArray, List.length_append, List.length_take, List.length_drop, Array.length_toList]
    omega
  have htake : (splice cur.toList (i * 2) news).take ((i + (n - j)) * 2) = xs.take (2 * i) ++ xs.drop (2 * j) := by
    have h1 := s1.out; have h2 := Hcs.out
    have ht : cur.toList.take (i * 2) = xs.take (2 * i) := by
      rw [← Htk.out, List.take_take]
      congr 1
      omega
    have hl : (xs.take (2 * i)).length = i * 2 := by rw [List.length_take, Hxl.out]; omega
    unfold splice
    rw [ht, ← List.append_assoc, List.take_append_of_le_length (by rw [List.length_append, hl]; omega), List.take_of_length_le (by rw [List.length_append, hl]; omega), Hne.out]
  obtain ⟨W2, hW2⟩ : ∃ W2, W2 = w1.setRow g ((splice cur.toList (i * 2) news).take ((i + (n - j)) * 2) ++ (Builtin.zeroCells (Value.agg #[Value.slice none 0 0, Value.int IntKind.i64 0]).cells (n - (i + (n - j)))).toList ++ (splice cur.toList (i * 2) news).drop ((i + (n - j)) * 2 + (n - (i + (n - j))) * 2)).toArray := ⟨_, rfl⟩
  have hcl : ∀ ty, (Builtin.clear_ #[76] ty #[.slice (some ⟨g, (i + (n - j)) * 2, none⟩) (n - (i + (n - j))) (cap - (i + (n - j)))]).run Try.prog w1 = .ok (.tuple #[]) W2 := by
    intro ty
    rw [hW2]
    exact run_clear_row w1 76 81 ty (.agg #[Value.slice none 0 0, Value.int IntKind.i64 0]) 2 Try.underlying76 Try.zeroValue81 rfl (by decide) (fun k hk => by match k, hk with | 0, _ => rfl | 1, _ => rfl) g ((i + (n - j)) * 2) (n - (i + (n - j))) _ (splice cur.toList (i * 2) news).toArray 81 hq1.out (by omega) (by rw [hsp]; omega)
  have F : Hid (W2.ownsRow B 81 2 (.slice (some ⟨g, 0, none⟩) (n - (j - i)) cap) (n - (j - i)) (xs.take (2 * i) ++ xs.drop (2 * j)) ∧ w.grownBy W2 (some g)) := by
    have e : n - (j - i) = i + (n - j) := by omega
    have hx := Hxl.out
    have hg2 := grownBy_setRow w1 g ((splice cur.toList (i * 2) news).take ((i + (n - j)) * 2) ++ (Builtin.zeroCells (Value.agg #[Value.slice none 0 0, Value.int IntKind.i64 0]).cells (n - (i + (n - j)))).toList ++ (splice cur.toList (i * 2) news).drop ((i + (n - j)) * 2 + (n - (i + (n - j))) * 2)).toArray
    rw [← hW2] at hg2
    refine ⟨?_, ?_⟩
    · rw [e]
      have hz : (Builtin.zeroCells (Value.agg #[Value.slice none 0 0, Value.int IntKind.i64 0]).cells (n - (i + (n - j)))).toList.length = (n - (i + (n - j))) * 2 := by
        rw [Array.length_toList, size_zeroCells]
        rfl
      have hl : (xs.take (2 * i) ++ xs.drop (2 * j)).length = (i + (n - j)) * 2 := by rw [List.length_append, List.length_take, List.length_drop, hx]; omega
      refine ⟨hl, Or.inr ⟨g, cap, ((splice cur.toList (i * 2) news).take ((i + (n - j)) * 2) ++ (Builtin.zeroCells (Value.agg #[Value.slice none 0 0, Value.int IntKind.i64 0]).cells (n - (i + (n - j)))).toList ++ (splice cur.toList (i * 2) news).drop ((i + (n - j)) * 2 + (n - (i + (n - j))) * 2)).toArray, rfl, hB, ?_, by omega, hcm, ?_, ?_⟩⟩
      · rw [hW2]
        exact setRow_heap w1 g _ _ 81 _ hq1.out
      · rw [htake]
        simp only [List.size_toArray, List.length_append, List.length_drop] at hl hz hsp ⊢
        omega
      · rw [htake]
        simp only [List.append_assoc]
        rw [← List.append_assoc, List.take_append_of_le_length (by omega), List.take_of_length_le (by omega)]
    · have h1 := hg1.out
      exact ⟨hg2.os.trans h1.os, hg2.tape.trans h1.tape, hg2.output.trans h1.output, Nat.le_trans h1.size hg2.size, fun k hk hne => (hg2.block k (Nat.lt_of_lt_of_le hk h1.size) hne).trans (h1.block k hk hne)⟩
  clear hW2 hsp htake hq1 hg1
  have hne : ¬ (cap = i + (n - j)) := by omega
  have hmn : i + (n - j) ≤ n := by omega
  go_wp2
  go_ret
  exact ⟨by rw [show n - (j - i) = i + (n - j) by omega]; rfl, F.out⟩
end Go.Proofs.PlatenPiece
