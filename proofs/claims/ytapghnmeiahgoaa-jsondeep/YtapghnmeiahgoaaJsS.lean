/- What the document's Read comes to. -/
import Derived.Test.YtapghnmeiahgoaaJsR
namespace Go.Proofs.PlatenJson
open Go Go.RowKit
set_option linter.unusedVariables false
set_option maxRecDepth 100000
section
variable {B K : Nat} {w0 w : World}
theorem feed_any {M : Mc} (h : MM B K w0 w M) (c i : Nat) (hc : c < 256) (hi : i < 100000) (hv : Iv M i) :
    Calls Try.prog 17 #[.pointer (some ⟨K, 0, none⟩), .int .u8 (c : Nat), .int .i64 (i : Nat)] w (Does B K w0 (feed M c i)) := by
  obtain ⟨sv, lv, h⟩ := h
  obtain ⟨st, S, fr, nm, left, cnt, T⟩ := M
  simp only at h
  have hs : st ≤ 17 := hv.s
  have hE : ends st = true → Calls Try.prog 17 #[.pointer (some ⟨K, 0, none⟩), .int .u8 (c : Nat), .int .i64 (i : Nat)] w (Does B K w0 (feed ⟨st, S, fr, nm, left, cnt, T⟩ c i)) := fun he => by
    cases nm with
    | true => exact feedE4 h he c i hc hi hv
    | false => exact feedE5 h he c i hc hi hv
  match st, hs, h, hv, hE with
  | 0, _, h, hv, _ => exact feed0 h c i hc hi hv
  | 1, _, h, hv, _ => exact feed1 h c i hc hi hv
  | 2, _, h, hv, _ => exact feed2 h c i hc hi hv
  | 3, _, h, hv, _ => exact feed3 h c i hc hi hv
  | 4, _, h, hv, _ => exact feed4 h c i hc hi hv
  | 5, _, h, hv, _ => exact feed5 h c i hc hi hv
  | 6, _, h, hv, _ => exact feed6 h c i hc hi hv
  | 7, _, h, hv, _ => exact feed7 h c i hc hi hv
  | 8, _, h, hv, _ => exact feed8 h c i hc hi hv
  | 9, _, h, hv, _ => exact feed9 h c i hc hi hv
  | 10, _, _, _, hE => exact hE rfl
  | 11, _, _, _, hE => exact hE rfl
  | 12, _, h, hv, _ => exact feed12 h c i hc hi hv
  | 13, _, _, _, hE => exact hE rfl
  | 14, _, h, hv, _ => exact feed14 h c i hc hi hv
  | 15, _, h, hv, _ => exact feed15 h c i hc hi hv
  | 16, _, _, _, hE => exact hE rfl
  | 17, _, h, hv, _ => exact feed17 h c i hc hi hv
  | n + 18, hs, _, _, _ => exact absurd hs (by omega)

/-! The machine stays what it is. -/
structure Iw (M : Mc) (i : Nat) : Prop where
  s : M.st ≤ 17
  S : M.stack.length ≤ 512
  fr : M.fr ≤ i
  l : M.l.length ≤ 2 * i + 1
  h : M.st = 8 → 1 ≤ M.cnt ∧ M.cnt ≤ 4
  w : M.st = 17 → ∃ b r, M.left = b :: r ∧ ∀ x ∈ M.left, x < 256
theorem next_iv {M : Mc} {c i : Nat} (h : Iw M i) (h0 : (next M c i).1 = 0) : Iv (next M c i).2 (i + 1) := by
  obtain ⟨st, S, fr, nm, left, cnt, T⟩ := M
  have hS := h.S
  have hf := h.fr
  have hl := h.l
  simp only at hS hf hl
  unfold next at h0 ⊢
  cases S with
  | nil => simp at h0
  | cons b S =>
    simp only [List.length_cons] at hS
    simp only at h0 ⊢
    split at h0
    · rename_i q; rw [if_pos q]
      exact ⟨by simp [one], by simp [one]; omega, by simp [one]; omega, by simp [one]; omega, by simp [one], by simp [one]⟩
    · rename_i q; rw [if_neg q]
      split at h0
      · rename_i q; rw [if_pos q]
        exact ⟨by simp [one], by simp [one]; omega, by simp [one]; omega, by simp [one]; omega, by simp [one], by simp [one]⟩
      · rename_i q; rw [if_neg q]
        split at h0
        · rename_i q; rw [if_pos q]
          exact ⟨by simp [one], by simp [one]; omega, by simp [one]; omega, by simp [one]; omega, by simp [one], by simp [one]⟩
        · simp at h0
theorem begin_iv {M : Mc} {c i : Nat} (hc : c < 256) (h : Iw M i) (h0 : (begin' M c i).1 = 0) : Iv (begin' M c i).2 (i + 1) := by
  obtain ⟨st, S, fr, nm, left, cnt, T⟩ := M
  have hS := h.S
  have hf := h.fr
  have hl := h.l
  simp only at hS hf hl
  unfold begin' at h0 ⊢
  simp only at h0 ⊢
  split at h0
  · rename_i q; rw [if_pos q]
    split at h0
    · simp at h0
    · rename_i q; rw [if_neg q]
      refine ⟨?_, by simp; omega, by simp, by simp; omega, ?_, ?_⟩
      · simp only; split <;> omega
      · simp only; split <;> (intro e; cases e)
      · simp only; split <;> (intro e; cases e)
  · rename_i q; rw [if_neg q]
    split at h0
    · rename_i q; rw [if_pos q]
      exact ⟨by simp, by simpa using hS, by simp, by simp; omega, by simp, by simp⟩
    rename_i q; rw [if_neg q]
    split at h0
    · rename_i q; rw [if_pos q]
      exact ⟨by simp, by simpa using hS, by simp, by simp; omega, by simp, by simp⟩
    rename_i q; rw [if_neg q]
    split at h0
    · rename_i q; rw [if_pos q]
      exact ⟨by simp, by simpa using hS, by simp, by simp; omega, by simp, by simp⟩
    rename_i q; rw [if_neg q]
    split at h0
    · rename_i q; rw [if_pos q]
      exact ⟨by simp, by simpa using hS, by simp, by simp; omega, by simp, by simp⟩
    rename_i q; rw [if_neg q]
    split at h0
    · rename_i q; rw [if_pos q]
      exact ⟨by simp, by simpa using hS, by simp, by simp; omega, by simp, fun _ => ⟨_, _, rfl, by simp⟩⟩
    rename_i q; rw [if_neg q]
    split at h0
    · rename_i q; rw [if_pos q]
      exact ⟨by simp, by simpa using hS, by simp, by simp; omega, by simp, fun _ => ⟨_, _, rfl, by simp⟩⟩
    rename_i q; rw [if_neg q]
    split at h0
    · rename_i q; rw [if_pos q]
      exact ⟨by simp, by simpa using hS, by simp, by simp; omega, by simp, fun _ => ⟨_, _, rfl, by simp⟩⟩
    · simp at h0
theorem atom_iw {M : Mc} {i : Nat} (h : Iv M i) : Iw (atom M i) i := by
  obtain ⟨st, S, fr, nm, left, cnt, T⟩ := M
  have hS := h.S
  have hf := h.fr
  have hl := h.l
  simp only at hS hf hl
  refine ⟨?_, hS, hf, by simp [atom]; omega, ?_, ?_⟩ <;> cases nm <;> simp [atom]
theorem Iv.iw {M : Mc} {i : Nat} (h : Iv M i) : Iw M i := ⟨h.s, h.S, h.fr, by have := h.l; omega, h.h, h.w⟩
theorem inside_iv {M : Mc} {c i : Nat} (hs : M.st = 6 ∨ M.st = 7 ∨ M.st = 8 ∨ M.st = 17) (h : Iw M i) (h0 : (inside M c i).1 = 0) : Iv (inside M c i).2 (i + 1) := by
  obtain ⟨st, S, fr, nm, left, cnt, T⟩ := M
  have hS := h.S
  have hf := h.fr
  have hl := h.l
  have hc8 := h.h
  have hw := h.w
  simp only at hs hS hf hl hc8 hw
  rcases hs with rfl | rfl | rfl | rfl
  · unfold inside at h0 ⊢
    simp only [if_true] at h0 ⊢
    split at h0
    · simp at h0
    rename_i q; rw [if_neg q]
    split at h0
    · rename_i q; rw [if_pos q]
      refine ⟨?_, hS, by simp [atom]; omega, by simp [atom]; omega, ?_, ?_⟩ <;> cases nm <;> simp [atom]
    rename_i q; rw [if_neg q]
    split at h0
    · rename_i q; rw [if_pos q]
      exact ⟨by simp, hS, by simp; omega, by simp; omega, by simp, by simp⟩
    rename_i q; rw [if_neg q]
    exact ⟨by simp, hS, by simp; omega, by simp; omega, by simp, by simp⟩
  · unfold inside at h0 ⊢
    simp only [if_true, if_neg (show ¬ (7 : Nat) = 6 by decide)] at h0 ⊢
    split at h0
    · rename_i q; rw [if_pos q]
      exact ⟨by simp, hS, by simp; omega, by simp; omega, by simp, by simp⟩
    rename_i q; rw [if_neg q]
    split at h0
    · rename_i q; rw [if_pos q]
      exact ⟨by simp, hS, by simp; omega, by simp; omega, by simp, by simp⟩
    · simp at h0
  · unfold inside at h0 ⊢
    simp only [if_true, if_neg (show ¬ (8 : Nat) = 6 by decide), if_neg (show ¬ (8 : Nat) = 7 by decide)] at h0 ⊢
    split at h0
    · rename_i q; rw [if_pos q]
      have := hc8 rfl
      refine ⟨?_, hS, by simp; omega, by simp; omega, ?_, ?_⟩
      · simp only; split <;> omega
      · simp only; split <;> (intro e; first | (cases e; done) | omega)
      · simp only; split <;> (intro e; cases e)
    · simp at h0
  · obtain ⟨b, r, hlr, hx⟩ := hw rfl
    subst hlr
    unfold inside at h0 ⊢
    simp only [if_neg (show ¬ (17 : Nat) = 6 by decide), if_neg (show ¬ (17 : Nat) = 7 by decide), if_neg (show ¬ (17 : Nat) = 8 by decide)] at h0 ⊢
    split at h0
    · simp at h0
    rename_i q; rw [if_neg q]
    split at h0
    · rename_i q; rw [if_pos q]
      refine ⟨?_, hS, by simp [atom]; omega, by simp [atom]; omega, ?_, ?_⟩ <;> cases nm <;> simp [atom]
    rename_i q; rw [if_neg q]
    refine ⟨by simp, hS, by simp; omega, by simp; omega, by simp, fun _ => ?_⟩
    cases r with
    | nil => exact absurd rfl q
    | cons a r => exact ⟨a, r, rfl, fun x hx' => hx x (List.mem_cons_of_mem _ hx')⟩
theorem numb_st (s c : Nat) : (numb s c).2 = true → (numb s c).1 ≤ 16 ∧ (numb s c).1 ≠ 8 := by
  intro h
  unfold numb at h ⊢
  repeat' split
  all_goals first | (simp; done) | (simp_all; done)
theorem feed_iv {M : Mc} {c i : Nat} (hc : c < 256) (h : Iv M i) (h0 : (feed M c i).1 = 0) : Iv (feed M c i).2 (i + 1) := by
  unfold feed at h0 ⊢
  by_cases hn : (numb M.st c).2 = true
  · rw [if_pos hn]
    obtain ⟨a, b⟩ := numb_st M.st c hn
    exact ⟨by simp only; omega, h.S, by have := h.fr; simp only; omega, by have := h.l; simp only; omega, fun e => absurd e b, fun e => by simp only at e; omega⟩
  · rw [if_neg hn] at h0 ⊢
    have hw : Iw (if ends M.st then atom M i else M) i := by
      split
      · exact atom_iw h
      · exact h.iw
    generalize (if ends M.st then atom M i else M) = M1 at *
    unfold feedA at h0 ⊢
    by_cases q1 : M1.st = 6 ∨ M1.st = 7 ∨ M1.st = 8 ∨ M1.st = 17
    · rw [if_pos q1] at h0 ⊢; exact inside_iv q1 hw h0
    rw [if_neg q1] at h0 ⊢
    split at h0
    · simp at h0
    rename_i q2; rw [if_neg q2]
    have hup : Iv M1 (i + 1) := ⟨hw.s, hw.S, by have := hw.fr; omega, by have := hw.l; omega, hw.h, hw.w⟩
    split at h0
    · rename_i q3; rw [if_pos q3]; exact hup
    rename_i q3; rw [if_neg q3]
    split at h0
    · rename_i q4; rw [if_pos q4]; exact begin_iv hc hw h0
    rename_i q4; rw [if_neg q4]
    split at h0
    · rename_i q5; rw [if_pos q5]
      split at h0
      · rename_i q6; rw [if_pos q6]; exact next_iv hw h0
      · rename_i q6; rw [if_neg q6]; exact begin_iv hc hw h0
    rename_i q5; rw [if_neg q5]
    split at h0
    · rename_i q6; rw [if_pos q6]
      split at h0
      · rename_i q7; rw [if_pos q7]; exact next_iv hw h0
      rename_i q7; rw [if_neg q7]
      split at h0
      · simp at h0
      rename_i q8; rw [if_neg q8]
      exact ⟨by simp, hw.S, by simp, by have := hw.l; simp only; omega, by simp, by simp⟩
    rename_i q6; rw [if_neg q6]
    split at h0
    · rename_i q7; rw [if_pos q7]
      split at h0
      · simp at h0
      rename_i q8; rw [if_neg q8]
      have := hw.l
      have := hw.fr
      exact ⟨by simp [one], hw.S, by simp only [one]; omega, by simp [one]; omega, by simp [one], by simp [one]⟩
    rename_i q7; rw [if_neg q7]
    exact next_iv hw h0
end
end Go.Proofs.PlatenJson
