/- What slices.Delete comes to, for elements of one cell. -/
import Derived.Test.YtibdhahkkejnjaaPsJ
namespace Go.Proofs.PlatenPiece
open Go Go.RowKit
set_option linter.unusedVariables false
set_option maxRecDepth 100000

set_option maxHeartbeats 4000000 in
set_option maxRecDepth 100000 in
theorem sdel1 (g n cap i j B : Nat) (xs : List Value) (w : World) (hij : i < j) (hj : j ≤ n) (hn : n ≤ 1000000) (hown : w.ownsRow B 49 1 (.slice (some ⟨g, 0, none⟩) n cap) n xs) (hxs : ∀ u ∈ xs, u.oneCell' = true) :
    Calls Try.prog 64 #[.slice (some ⟨g, 0, none⟩) n cap, .int .i64 i, .int .i64 j] w fun e w' => e = .returned (.slice (some ⟨g, 0, none⟩) (n - (j - i)) cap) ∧ w'.ownsRow B 49 1 (.slice (some ⟨g, 0, none⟩) (n - (j - i)) cap) (n - (j - i)) (xs.take (i) ++ xs.drop (j)) ∧ w.grownBy w' (some g) := by
  obtain ⟨i0, hi0, hz0, hz1, hz2⟩ := info_parts info49
  have hcells : ∀ j u, xs[j]? = some u → w.cell? ((⟨g, 0, none⟩ : Addr).add j) = some u := hown.cells rfl
  obtain ⟨hxl, hown2⟩ := hown
  rcases hown2 with ⟨h0, _⟩ | ⟨g', cap', cur, he, hB, hh, hnc, hcm, hcs, htk⟩
  · cases h0
  simp only [Value.slice.injEq, Option.some.injEq, Addr.mk.injEq, and_true, true_and] at he
  obtain ⟨rfl, rfl⟩ := he
  have hcm' : cap ≤ 9223372036854775807 := by unfold maxLen at hcm; omega
  obtain ⟨news, hnews⟩ : ∃ news, news = xs.drop (j) := ⟨_, rfl⟩
  have hlen : news.length = (n - j) * 1 := by rw [hnews, List.length_drop, hxl]; omega
  obtain ⟨A, hA, hsrc⟩ : ∃ A : Addr, (if cap = j then some (⟨g, 0, none⟩ : Addr) else some ⟨g, j, none⟩) = some A ∧ Hid (∀ t u, news[t]? = some u → w.drew.cell? (A.add t) = some u) := by
    by_cases h : cap = j
    · refine ⟨⟨g, 0, none⟩, by simp [h], fun t u hu => ?_⟩
      have h0 : news.length = 0 := by rw [hlen]; omega
      rw [List.length_eq_zero_iff.1 h0] at hu
      simp at hu
    · refine ⟨⟨g, j, none⟩, by simp [h], fun t u hu => ?_⟩
      rw [hnews, List.getElem?_drop] at hu
      have := hcells _ _ hu
      rw [Addr.add_lit] at this ⊢
      rw [show j + t = 0 + (j + t) by omega]
      exact this
  have s1 := hidden hlen
  have s2 : Hid (∀ u ∈ news, u.oneCell' = true) := fun u hu => hxs u (by rw [hnews] at hu; exact List.mem_of_mem_drop hu)
  have hh' : Hid (w.drew.heap[g]? = some (.cells cur 49 (0, 0))) := hh
  have s3 : Hid (i * 1 + news.length ≤ cur.size) := by show i * 1 + news.length ≤ cur.size; rw [hlen, hcs]; omega
  have hic : i ≤ cap := by omega
  have hjc : j ≤ cap := by omega
  have Hcs := hidden hcs
  have Htk := hidden htk
  have Hne := hidden hnews
  have Hxl := hidden hxl
  clear hh hlen hcells hxs hcs htk hnews hxl
  go_enter Try.func64, Try.ntmps64
  go_wp2_with fail
  have hm0 : i + (n - j) ≤ cap := by omega
  go_region_law (refine step_append_row rfl (.tmp 22) (.tmp 25) 48 rfl 49 i0 1 Try.underlying48 hi0 hz1 g i cap cur hh'.out (by simp [Act.eval, Act.put]) A (n - j) (cap - j) news (by simp [Act.eval, Act.put]) s1.out hsrc.out s2.out hm0 s3.out ?_; intro w1 hq1 hg1)
  have hsp : (splice cur.toList (i * 1) news).toArray.size = cap * 1 := by
    have h1 := s1.out; have h2 := Hcs.out; have h3 := s3.out
    simp only [splice, List.size_toArray, List.length_append, List.length_take, List.length_drop, Array.length_toList]
    omega
  have htake : (splice cur.toList (i * 1) news).take ((i + (n - j)) * 1) = xs.take (i) ++ xs.drop (j) := by
    have h1 := s1.out; have h2 := Hcs.out
    have ht : cur.toList.take (i * 1) = xs.take (i) := by
      rw [← Htk.out, List.take_take]
      congr 1
      omega
    have hl : (xs.take (i)).length = i * 1 := by rw [List.length_take, Hxl.out]; omega
    unfold splice
    rw [ht, ← List.append_assoc, List.take_append_of_le_length (by rw [List.length_append, hl]; omega), List.take_of_length_le (by rw [List.length_append, hl]; omega), Hne.out]
  obtain ⟨W2, hW2⟩ : ∃ W2, W2 = w1.setRow g ((splice cur.toList (i * 1) news).take ((i + (n - j)) * 1) ++ (Builtin.zeroCells (Value.slice none 0 0).cells (n - (i + (n - j)))).toList ++ (splice cur.toList (i * 1) news).drop ((i + (n - j)) * 1 + (n - (i + (n - j))) * 1)).toArray := ⟨_, rfl⟩
  have hcl : ∀ ty, (Builtin.clear_ #[48] ty #[.slice (some ⟨g, i + (n - j), none⟩) (n - (i + (n - j))) (cap - (i + (n - j)))]).run Try.prog w1 = .ok (.tuple #[]) W2 := by
    intro ty
    rw [hW2]
    simpa only [Nat.mul_one, List.toList_toArray] using run_clear_row w1 48 49 ty (Value.slice none 0 0) 1 Try.underlying48 Try.zeroValue49 rfl (by decide) (fun k hk => by match k, hk with | 0, _ => rfl) g ((i + (n - j)) * 1) (n - (i + (n - j))) (cap - (i + (n - j))) (splice cur.toList (i * 1) news).toArray 49 hq1.out (by omega) (by rw [hsp]; omega)
  have F : Hid (W2.ownsRow B 49 1 (.slice (some ⟨g, 0, none⟩) (n - (j - i)) cap) (n - (j - i)) (xs.take (i) ++ xs.drop (j)) ∧ w.grownBy W2 (some g)) := by
    have e : n - (j - i) = i + (n - j) := by omega
    have hx := Hxl.out
    have hg2 := grownBy_setRow w1 g ((splice cur.toList (i * 1) news).take ((i + (n - j)) * 1) ++ (Builtin.zeroCells (Value.slice none 0 0).cells (n - (i + (n - j)))).toList ++ (splice cur.toList (i * 1) news).drop ((i + (n - j)) * 1 + (n - (i + (n - j))) * 1)).toArray
    rw [← hW2] at hg2
    refine ⟨?_, ?_⟩
    · rw [e]
      have hz : (Builtin.zeroCells (Value.slice none 0 0).cells (n - (i + (n - j)))).toList.length = (n - (i + (n - j))) * 1 := by
        rw [Array.length_toList, size_zeroCells]
        rfl
      have hl : (xs.take (i) ++ xs.drop (j)).length = (i + (n - j)) * 1 := by rw [List.length_append, List.length_take, List.length_drop, hx]; omega
      refine ⟨hl, Or.inr ⟨g, cap, ((splice cur.toList (i * 1) news).take ((i + (n - j)) * 1) ++ (Builtin.zeroCells (Value.slice none 0 0).cells (n - (i + (n - j)))).toList ++ (splice cur.toList (i * 1) news).drop ((i + (n - j)) * 1 + (n - (i + (n - j))) * 1)).toArray, rfl, hB, ?_, by omega, hcm, ?_, ?_⟩⟩
      · rw [hW2]
        exact setRow_heap w1 g _ _ 49 _ hq1.out
      · rw [htake]
        simp only [List.size_toArray, List.length_append, List.length_drop] at hl hz hsp ⊢
        omega
      · rw [htake]
        simp only [List.append_assoc]
        rw [← List.append_assoc, List.take_append_of_le_length (by omega), List.take_of_length_le (by omega)]
    · have h1 := hg1.out
      exact ⟨hg2.os.trans h1.os, hg2.tape.trans h1.tape, hg2.output.trans h1.output, Nat.le_trans h1.size hg2.size, fun k hk hne => (hg2.block k (Nat.lt_of_lt_of_le hk h1.size) hne).trans (h1.block k hk hne)⟩
  clear hW2 hsp htake hq1 hg1
  have hne : ¬ (cap = i + (n - j)) := by omega
  have hmn : i + (n - j) ≤ n := by omega
  go_wp2
  go_ret
  exact ⟨by rw [show n - (j - i) = i + (n - j) by omega]; rfl, F.out⟩
end Go.Proofs.PlatenPiece
