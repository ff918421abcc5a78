/- What leader.solid, leader.Mark and the document's Mark come to. -/
import Derived.Test.YtglgcbocpdenhabDoorLdA
import Derived.Laws.Rows
namespace Go.Proofs.PlatenLeader
open Go.RowKit
set_option linter.unusedVariables false

theorem tw_len (p : UInt8 → Bool) : ∀ (l : List UInt8) (k : Nat), k ≤ l.length → (∀ j, j < k → p (l.getD j 0) = true) → (k < l.length → p (l.getD k 0) = false) → (l.takeWhile p).length = k
  | [], k, h, _, _ => by simp at h; simp [h]
  | a :: t, 0, _, _, h => by have := h (by simp); simp at this; simp [this]
  | a :: t, k + 1, h1, h2, h3 => by
    have h0 := h2 0 (by omega)
    simp at h0
    rw [List.takeWhile_cons_of_pos h0]
    simp only [List.length_cons, Nat.add_right_cancel_iff]
    exact tw_len p t k (by simpa using h1) (fun j hj => by simpa using h2 (j + 1) (by omega)) (fun hk => by simpa using h3 (by simpa using hk))
theorem L_ext (s : ByteArray) (i j : Nat) : L (s.extract i j) = ((L s).drop i).take (j - i) := by
  simp [ByteArray.data_extract, L]
theorem S_L (s : ByteArray) : S (L s) = s := rfl
theorem L_S (l : List UInt8) : L (S l) = l := rfl
theorem len_L (s : ByteArray) : (L s).length = s.size := rfl
theorem ext_S (s : ByteArray) (i j : Nat) : s.extract i j = S (((L s).drop i).take (j - i)) := by rw [← L_ext]
theorem pre_drop (l : List UInt8) (k : Nat) (hk : k < l.length) : (0 < (pre (l.drop k)).length) ↔ bl (l.getD k 0) = true := by
  have e : l.getD k 0 = l[k] := by rw [List.getD_eq_getElem?_getD, List.getElem?_eq_getElem hk]; rfl
  rw [List.drop_eq_getElem_cons hk, e]
  unfold pre
  by_cases h : bl l[k] = true
  · rw [List.takeWhile_cons_of_pos h]; simp [h]
  · rw [List.takeWhile_cons_of_neg h]; simp [h]

set_option maxHeartbeats 1000000 in
theorem solid_any (s : ByteArray) (w : World) (hs : s.size ≤ 1000000) :
    Calls Tryd.prog 16 #[.string s] w fun e w' => e = .returned (.int .i64 (((L s).takeWhile nb).length : Nat)) ∧ w' = w := by
  go_enter Tryd.func16, Tryd.ntmps16
  go_wp2
  go_loop [6] (fun i => ∃ k : Nat, k ≤ s.size ∧ i = .int .i64 k ∧ ∀ j, j < k → nb ((L s).getD j 0) = true) (fun i => s.size - (intOf i).toNat)
  case atStart => exact ⟨0, Nat.zero_le _, rfl, fun j hj => absurd hj (Nat.not_lt_zero _)⟩
  case round =>
    obtain ⟨k, hk, rfl, hall⟩ := hrel
    by_cases hlt : k < s.size
    · have c := indent_any (s.extract k s.size) w (by simp [ByteArray.size_extract]; omega)
      have hp := pre_drop (L s) k hlt
      have e : (L s).drop k = L (s.extract k s.size) := by
        rw [L_ext, List.take_of_length_le (by rw [List.length_drop]; exact Nat.le_refl _)]
      rw [e] at hp
      have hle : (pre (L (s.extract k s.size))).length ≤ 1000000 := by
        have h1 := congrArg List.length (pre_pst (L (s.extract k s.size)))
        have h2 : (L (s.extract k s.size)).length ≤ s.size := by rw [L_ext]; simp
        simp only [List.length_append] at h1
        omega
      by_cases hb : bl ((L s).getD k 0) = true
      · have hpos : ((pre (L (s.extract k s.size))).length : Int) > 0 := by have := hp.2 hb; omega
        have HF : Hid (((L s).takeWhile nb).length = k) := tw_len nb (L s) k hk hall (fun _ => bl_nb hb)
        clear hp e hall hb
        generalize (pre (L (s.extract k s.size))).length = x at *
        go_wp2_with fail
        refine c.mono ?_
        rintro e w' ⟨rfl, rfl⟩
        go_wp2
        go_ret
        exact ⟨by rw [HF.out]; rfl, rfl⟩
      · have hpos : ¬ (((pre (L (s.extract k s.size))).length : Int) > 0) := by
          intro h
          exact hb (hp.1 (by omega))
        have HA : Hid (∀ j, j < k + 1 → nb ((L s).getD j 0) = true) := fun j hj => by
          by_cases e : j = k
          · subst e; simpa [nb] using hb
          · exact hall j (by omega)
        clear hp e hall hb
        generalize (pre (L (s.extract k s.size))).length = x at *
        go_wp2_with fail
        refine c.mono ?_
        rintro e w' ⟨rfl, rfl⟩
        go_wp2
        go_round
        case rel => exact ⟨k + 1, by omega, by go_num, HA.out⟩
        case measure => simp [intOf]; omega
    · obtain rfl : k = s.size := by omega
      have HF : Hid (((L s).takeWhile nb).length = s.size) := tw_len nb (L s) _ hk hall (fun h => absurd h (Nat.lt_irrefl _))
      clear hall
      go_wp2
      go_ret
      exact ⟨by rw [HF.out]; rfl, rfl⟩

/-- The program's own table of marks. -/
def mkCells : Array Value := #[.string ⟨#[47, 47]⟩, .string ⟨#[45, 45]⟩, .string ⟨#[59, 59]⟩, .string ⟨#[35]⟩, .string ⟨#[59]⟩, .string ⟨#[42]⟩, .string ⟨#[62]⟩, .string ⟨#[37]⟩]
def MK (w : World) : Prop := ∃ t fr, w.heap[0]? = some (.cells mkCells t fr)
theorem MK.below {w w' : World} (h : MK w) (hb : Below w.heap.size w w') : MK w' := by
  obtain ⟨t, fr, h⟩ := h
  have h0 : 0 < w.heap.size := by
    rcases Nat.eq_zero_or_pos w.heap.size with e | e
    · rw [Array.getElem?_eq_none (by omega)] at h; cases h
    · exact e
  exact ⟨t, fr, by rw [hb.block 0 h0]; exact h⟩
theorem info27 : (Tryd.prog.info? 27).map (·.size) = some mkCells.size := by kernel_rfl
theorem mk_no {l : List UInt8} (h : ∀ j, j < 8 → l ≠ marksL.getD j []) : mkB l = false := by
  unfold mkB
  have h0 := h 0 (by decide); have h1 := h 1 (by decide); have h2 := h 2 (by decide); have h3 := h 3 (by decide)
  have h4 := h 4 (by decide); have h5 := h 5 (by decide); have h6 := h 6 (by decide); have h7 := h 7 (by decide)
  simp [marksL] at *
  simp [*]
theorem mk_yes {l : List UInt8} {j : Nat} (hj : j < 8) (h : l = marksL.getD j []) : mkB l = true := by
  subst h
  match j, hj with
  | 0, _ => rfl
  | 1, _ => rfl
  | 2, _ => rfl
  | 3, _ => rfl
  | 4, _ => rfl
  | 5, _ => rfl
  | 6, _ => rfl
  | 7, _ => rfl

theorem info9 : (Tryd.prog.info? 9).map (·.size) = some 1 := by kernel_rfl
/-- An element of the table, taken by value. -/
theorem idx (w : World) (cs : Array Value) (k : Nat) (v : Value) (hk : k < 8) (hv : cs[k]? = some v) : (Instr.index 27 (.agg cs) (.int .i64 k)).run Tryd.prog w = .ok v w := by
  cases hq : Tryd.prog.info? 9 with
  | none => have := info9; rw [hq] at this; cases this
  | some i =>
    have hs : i.size = 1 := by have := info9; rw [hq] at this; simpa using this
    simp [Instr.index, run_underlying Tryd.underlying27, asIntOf, sizeOf, typeInfo, hq, hs, go_sem]
    rw [if_pos hk, hv]
    simp

set_option maxHeartbeats 2000000 in
theorem mark_any (l : List UInt8) (w : World) (hM : MK w) :
    Calls Tryd.prog 9 #[.string ⟨l.toArray⟩] w fun e w' => e = .returned (.bool (mkB l)) ∧ w' = w := by
  obtain ⟨t, fr, hg⟩ := hM
  have Hg := hidden hg
  clear hg
  go_enter Tryd.func9, Tryd.ntmps9
  go_wp2_with (refine wpList_load_row rfl 27 (.global 0) rfl 0 (by simp [Act.eval]) t mkCells fr _ Hg.out Tryd.underlying27 rfl info27 ?_)
  unfold mkCells
  go_loop [6] (fun i => ∃ k : Nat, k ≤ 8 ∧ i = .int .i64 k ∧ ∀ j, j < k → l ≠ marksL.getD j []) (fun i => 8 - (intOf i).toNat)
  case atStart => exact ⟨0, Nat.zero_le _, rfl, fun j hj => absurd hj (Nat.not_lt_zero _)⟩
  case round =>
    obtain ⟨k, hk, rfl, hall⟩ := hrel
    by_cases hlt : k < 8
    · by_cases he : l = marksL.getD k []
      · have HF := hidden (mk_yes hlt he)
        clear hall
        match k, hlt with
        | 0, _ =>
          have hi : (Instr.index 27 (.agg #[.string ⟨#[47, 47]⟩, .string ⟨#[45, 45]⟩, .string ⟨#[59, 59]⟩, .string ⟨#[35]⟩, .string ⟨#[59]⟩, .string ⟨#[42]⟩, .string ⟨#[62]⟩, .string ⟨#[37]⟩]) (.int .i64 0)).run Tryd.prog w = .ok (.string ⟨#[47, 47]⟩) w := idx w mkCells 0 _ (by decide) rfl
          have hb : (l == ([47, 47] : List UInt8)) = true := by rw [he]; rfl
          clear he
          go_wp2
          go_ret
          exact ⟨by rw [HF.out]; rfl, rfl⟩
        | 1, _ =>
          have hi : (Instr.index 27 (.agg #[.string ⟨#[47, 47]⟩, .string ⟨#[45, 45]⟩, .string ⟨#[59, 59]⟩, .string ⟨#[35]⟩, .string ⟨#[59]⟩, .string ⟨#[42]⟩, .string ⟨#[62]⟩, .string ⟨#[37]⟩]) (.int .i64 1)).run Tryd.prog w = .ok (.string ⟨#[45, 45]⟩) w := idx w mkCells 1 _ (by decide) rfl
          have hb : (l == ([45, 45] : List UInt8)) = true := by rw [he]; rfl
          clear he
          go_wp2
          go_ret
          exact ⟨by rw [HF.out]; rfl, rfl⟩
        | 2, _ =>
          have hi : (Instr.index 27 (.agg #[.string ⟨#[47, 47]⟩, .string ⟨#[45, 45]⟩, .string ⟨#[59, 59]⟩, .string ⟨#[35]⟩, .string ⟨#[59]⟩, .string ⟨#[42]⟩, .string ⟨#[62]⟩, .string ⟨#[37]⟩]) (.int .i64 2)).run Tryd.prog w = .ok (.string ⟨#[59, 59]⟩) w := idx w mkCells 2 _ (by decide) rfl
          have hb : (l == ([59, 59] : List UInt8)) = true := by rw [he]; rfl
          clear he
          go_wp2
          go_ret
          exact ⟨by rw [HF.out]; rfl, rfl⟩
        | 3, _ =>
          have hi : (Instr.index 27 (.agg #[.string ⟨#[47, 47]⟩, .string ⟨#[45, 45]⟩, .string ⟨#[59, 59]⟩, .string ⟨#[35]⟩, .string ⟨#[59]⟩, .string ⟨#[42]⟩, .string ⟨#[62]⟩, .string ⟨#[37]⟩]) (.int .i64 3)).run Tryd.prog w = .ok (.string ⟨#[35]⟩) w := idx w mkCells 3 _ (by decide) rfl
          have hb : (l == ([35] : List UInt8)) = true := by rw [he]; rfl
          clear he
          go_wp2
          go_ret
          exact ⟨by rw [HF.out]; rfl, rfl⟩
        | 4, _ =>
          have hi : (Instr.index 27 (.agg #[.string ⟨#[47, 47]⟩, .string ⟨#[45, 45]⟩, .string ⟨#[59, 59]⟩, .string ⟨#[35]⟩, .string ⟨#[59]⟩, .string ⟨#[42]⟩, .string ⟨#[62]⟩, .string ⟨#[37]⟩]) (.int .i64 4)).run Tryd.prog w = .ok (.string ⟨#[59]⟩) w := idx w mkCells 4 _ (by decide) rfl
          have hb : (l == ([59] : List UInt8)) = true := by rw [he]; rfl
          clear he
          go_wp2
          go_ret
          exact ⟨by rw [HF.out]; rfl, rfl⟩
        | 5, _ =>
          have hi : (Instr.index 27 (.agg #[.string ⟨#[47, 47]⟩, .string ⟨#[45, 45]⟩, .string ⟨#[59, 59]⟩, .string ⟨#[35]⟩, .string ⟨#[59]⟩, .string ⟨#[42]⟩, .string ⟨#[62]⟩, .string ⟨#[37]⟩]) (.int .i64 5)).run Tryd.prog w = .ok (.string ⟨#[42]⟩) w := idx w mkCells 5 _ (by decide) rfl
          have hb : (l == ([42] : List UInt8)) = true := by rw [he]; rfl
          clear he
          go_wp2
          go_ret
          exact ⟨by rw [HF.out]; rfl, rfl⟩
        | 6, _ =>
          have hi : (Instr.index 27 (.agg #[.string ⟨#[47, 47]⟩, .string ⟨#[45, 45]⟩, .string ⟨#[59, 59]⟩, .string ⟨#[35]⟩, .string ⟨#[59]⟩, .string ⟨#[42]⟩, .string ⟨#[62]⟩, .string ⟨#[37]⟩]) (.int .i64 6)).run Tryd.prog w = .ok (.string ⟨#[62]⟩) w := idx w mkCells 6 _ (by decide) rfl
          have hb : (l == ([62] : List UInt8)) = true := by rw [he]; rfl
          clear he
          go_wp2
          go_ret
          exact ⟨by rw [HF.out]; rfl, rfl⟩
        | 7, _ =>
          have hi : (Instr.index 27 (.agg #[.string ⟨#[47, 47]⟩, .string ⟨#[45, 45]⟩, .string ⟨#[59, 59]⟩, .string ⟨#[35]⟩, .string ⟨#[59]⟩, .string ⟨#[42]⟩, .string ⟨#[62]⟩, .string ⟨#[37]⟩]) (.int .i64 7)).run Tryd.prog w = .ok (.string ⟨#[37]⟩) w := idx w mkCells 7 _ (by decide) rfl
          have hb : (l == ([37] : List UInt8)) = true := by rw [he]; rfl
          clear he
          go_wp2
          go_ret
          exact ⟨by rw [HF.out]; rfl, rfl⟩
      · have HA : Hid (∀ j, j < k + 1 → l ≠ marksL.getD j []) := fun j hj => by
          by_cases e : j = k
          · rw [e]; exact he
          · exact hall j (by omega)
        clear hall
        match k, hlt with
        | 0, _ =>
          have hi : (Instr.index 27 (.agg #[.string ⟨#[47, 47]⟩, .string ⟨#[45, 45]⟩, .string ⟨#[59, 59]⟩, .string ⟨#[35]⟩, .string ⟨#[59]⟩, .string ⟨#[42]⟩, .string ⟨#[62]⟩, .string ⟨#[37]⟩]) (.int .i64 0)).run Tryd.prog w = .ok (.string ⟨#[47, 47]⟩) w := idx w mkCells 0 _ (by decide) rfl
          have hb : (l == ([47, 47] : List UInt8)) = false := by simpa [marksL] using he
          clear he
          go_wp2
          go_round
          case rel => exact ⟨1, by omega, rfl, HA.out⟩
          case measure => simp [intOf]
        | 1, _ =>
          have hi : (Instr.index 27 (.agg #[.string ⟨#[47, 47]⟩, .string ⟨#[45, 45]⟩, .string ⟨#[59, 59]⟩, .string ⟨#[35]⟩, .string ⟨#[59]⟩, .string ⟨#[42]⟩, .string ⟨#[62]⟩, .string ⟨#[37]⟩]) (.int .i64 1)).run Tryd.prog w = .ok (.string ⟨#[45, 45]⟩) w := idx w mkCells 1 _ (by decide) rfl
          have hb : (l == ([45, 45] : List UInt8)) = false := by simpa [marksL] using he
          clear he
          go_wp2
          go_round
          case rel => exact ⟨2, by omega, rfl, HA.out⟩
          case measure => simp [intOf]
        | 2, _ =>
          have hi : (Instr.index 27 (.agg #[.string ⟨#[47, 47]⟩, .string ⟨#[45, 45]⟩, .string ⟨#[59, 59]⟩, .string ⟨#[35]⟩, .string ⟨#[59]⟩, .string ⟨#[42]⟩, .string ⟨#[62]⟩, .string ⟨#[37]⟩]) (.int .i64 2)).run Tryd.prog w = .ok (.string ⟨#[59, 59]⟩) w := idx w mkCells 2 _ (by decide) rfl
          have hb : (l == ([59, 59] : List UInt8)) = false := by simpa [marksL] using he
          clear he
          go_wp2
          go_round
          case rel => exact ⟨3, by omega, rfl, HA.out⟩
          case measure => simp [intOf]
        | 3, _ =>
          have hi : (Instr.index 27 (.agg #[.string ⟨#[47, 47]⟩, .string ⟨#[45, 45]⟩, .string ⟨#[59, 59]⟩, .string ⟨#[35]⟩, .string ⟨#[59]⟩, .string ⟨#[42]⟩, .string ⟨#[62]⟩, .string ⟨#[37]⟩]) (.int .i64 3)).run Tryd.prog w = .ok (.string ⟨#[35]⟩) w := idx w mkCells 3 _ (by decide) rfl
          have hb : (l == ([35] : List UInt8)) = false := by simpa [marksL] using he
          clear he
          go_wp2
          go_round
          case rel => exact ⟨4, by omega, rfl, HA.out⟩
          case measure => simp [intOf]
        | 4, _ =>
          have hi : (Instr.index 27 (.agg #[.string ⟨#[47, 47]⟩, .string ⟨#[45, 45]⟩, .string ⟨#[59, 59]⟩, .string ⟨#[35]⟩, .string ⟨#[59]⟩, .string ⟨#[42]⟩, .string ⟨#[62]⟩, .string ⟨#[37]⟩]) (.int .i64 4)).run Tryd.prog w = .ok (.string ⟨#[59]⟩) w := idx w mkCells 4 _ (by decide) rfl
          have hb : (l == ([59] : List UInt8)) = false := by simpa [marksL] using he
          clear he
          go_wp2
          go_round
          case rel => exact ⟨5, by omega, rfl, HA.out⟩
          case measure => simp [intOf]
        | 5, _ =>
          have hi : (Instr.index 27 (.agg #[.string ⟨#[47, 47]⟩, .string ⟨#[45, 45]⟩, .string ⟨#[59, 59]⟩, .string ⟨#[35]⟩, .string ⟨#[59]⟩, .string ⟨#[42]⟩, .string ⟨#[62]⟩, .string ⟨#[37]⟩]) (.int .i64 5)).run Tryd.prog w = .ok (.string ⟨#[42]⟩) w := idx w mkCells 5 _ (by decide) rfl
          have hb : (l == ([42] : List UInt8)) = false := by simpa [marksL] using he
          clear he
          go_wp2
          go_round
          case rel => exact ⟨6, by omega, rfl, HA.out⟩
          case measure => simp [intOf]
        | 6, _ =>
          have hi : (Instr.index 27 (.agg #[.string ⟨#[47, 47]⟩, .string ⟨#[45, 45]⟩, .string ⟨#[59, 59]⟩, .string ⟨#[35]⟩, .string ⟨#[59]⟩, .string ⟨#[42]⟩, .string ⟨#[62]⟩, .string ⟨#[37]⟩]) (.int .i64 6)).run Tryd.prog w = .ok (.string ⟨#[62]⟩) w := idx w mkCells 6 _ (by decide) rfl
          have hb : (l == ([62] : List UInt8)) = false := by simpa [marksL] using he
          clear he
          go_wp2
          go_round
          case rel => exact ⟨7, by omega, rfl, HA.out⟩
          case measure => simp [intOf]
        | 7, _ =>
          have hi : (Instr.index 27 (.agg #[.string ⟨#[47, 47]⟩, .string ⟨#[45, 45]⟩, .string ⟨#[59, 59]⟩, .string ⟨#[35]⟩, .string ⟨#[59]⟩, .string ⟨#[42]⟩, .string ⟨#[62]⟩, .string ⟨#[37]⟩]) (.int .i64 7)).run Tryd.prog w = .ok (.string ⟨#[37]⟩) w := idx w mkCells 7 _ (by decide) rfl
          have hb : (l == ([37] : List UInt8)) = false := by simpa [marksL] using he
          clear he
          go_wp2
          go_round
          case rel => exact ⟨8, by omega, rfl, HA.out⟩
          case measure => simp [intOf]
    · obtain rfl : k = 8 := by omega
      have HF := hidden (mk_no hall)
      clear hall
      go_wp2
      go_ret
      exact ⟨by rw [HF.out]; rfl, rfl⟩

set_option maxHeartbeats 2000000 in
theorem rmark_any (l : List UInt8) (w : World) :
    Calls Tryd.prog 10 #[.string ⟨l.toArray⟩] w fun e w' => e = .returned (.bool (mkB l)) ∧ w' = w := by
  by_cases h0 : l = [47, 47]
  · subst h0
    go_enter Tryd.func10, Tryd.ntmps10
    go_wp2
    go_ret
    exact ⟨rfl, rfl⟩
  by_cases h1 : l = [45, 45]
  · subst h1
    go_enter Tryd.func10, Tryd.ntmps10
    go_wp2
    go_ret
    exact ⟨rfl, rfl⟩
  by_cases h2 : l = [59, 59]
  · subst h2
    go_enter Tryd.func10, Tryd.ntmps10
    go_wp2
    go_ret
    exact ⟨rfl, rfl⟩
  by_cases h3 : l = [35]
  · subst h3
    go_enter Tryd.func10, Tryd.ntmps10
    go_wp2
    go_ret
    exact ⟨rfl, rfl⟩
  by_cases h4 : l = [59]
  · subst h4
    go_enter Tryd.func10, Tryd.ntmps10
    go_wp2
    go_ret
    exact ⟨rfl, rfl⟩
  by_cases h5 : l = [42]
  · subst h5
    go_enter Tryd.func10, Tryd.ntmps10
    go_wp2
    go_ret
    exact ⟨rfl, rfl⟩
  by_cases h6 : l = [62]
  · subst h6
    go_enter Tryd.func10, Tryd.ntmps10
    go_wp2
    go_ret
    exact ⟨rfl, rfl⟩
  by_cases h7 : l = [37]
  · subst h7
    go_enter Tryd.func10, Tryd.ntmps10
    go_wp2
    go_ret
    exact ⟨rfl, rfl⟩
  have HF : Hid (mkB l = false) := by unfold Hid; simp [mkB, marksL, h0, h1, h2, h3, h4, h5, h6, h7]
  have b0 : (l == [47, 47]) = false := by simpa using h0
  have b1 : (l == [45, 45]) = false := by simpa using h1
  have b2 : (l == [59, 59]) = false := by simpa using h2
  have b3 : (l == [35]) = false := by simpa using h3
  have b4 : (l == [59]) = false := by simpa using h4
  have b5 : (l == [42]) = false := by simpa using h5
  have b6 : (l == [62]) = false := by simpa using h6
  have b7 : (l == [37]) = false := by simpa using h7
  clear h0 h1 h2 h3 h4 h5 h6 h7
  go_enter Tryd.func10, Tryd.ntmps10
  go_wp2
  go_ret
  exact ⟨by rw [HF.out]; rfl, rfl⟩
end Go.Proofs.PlatenLeader
