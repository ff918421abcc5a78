/- Tokens, one behind the other, with nothing but blanks between. -/
import Derived.Test.YtapghnmeiahgoaaBm
namespace Go.Proofs.Ytapghnmeiahgoaa
open Go.ChangeShapes Go.WideShapes Go.ChangeAt Go.RowKit Go.Proofs.PlatenJson
set_option linter.unusedVariables false

/-- Tokens from s to e, blanks between. -/
def Ch (f : Nat → Nat) : List Tk → Nat → Nat → Prop
  | [], s, e => s = e
  | t :: ts, s, e => s ≤ t.2.1 ∧ (∀ j, s ≤ j → j < t.2.1 → isB (f j) = true) ∧ 1 ≤ t.2.2 ∧ Ch f ts (t.2.1 + t.2.2) e
theorem ch_snoc {f : Nat → Nat} {k a m e : Nat} : ∀ (l : List Tk) (s : Nat), Ch f l s e → e ≤ a → (∀ j, e ≤ j → j < a → isB (f j) = true) → 1 ≤ m → Ch f (l ++ [(k, a, m)]) s (a + m)
  | [], s, h, h1, h2, h3 => by
    have h : s = e := h
    subst h
    exact ⟨h1, h2, h3, rfl⟩
  | t :: ts, s, h, h1, h2, h3 => ⟨h.1, h.2.1, h.2.2.1, ch_snoc ts _ h.2.2.2 h1 h2 h3⟩
theorem ch_le {f : Nat → Nat} {e : Nat} : ∀ (l : List Tk) (s : Nat), Ch f l s e → s ≤ e ∧ ∀ t ∈ l, t.2.1 + t.2.2 ≤ e
  | [], s, h => ⟨Nat.le_of_eq h, by simp⟩
  | t :: ts, s, h => by
    obtain ⟨h1, h2⟩ := ch_le ts _ h.2.2.2
    refine ⟨by have := h.1; omega, fun u hu => ?_⟩
    rcases List.mem_cons.1 hu with rfl | hu
    · exact h1
    · exact h2 u hu
/-- Up to byte i there are tokens and blanks. -/
def Ts (f : Nat → Nat) (l : List Tk) (i : Nat) : Prop := ∃ e, Ch f l 0 e ∧ e ≤ i ∧ ∀ j, e ≤ j → j < i → isB (f j) = true
def To (f : Nat → Nat) (l : List Tk) (fr i : Nat) : Prop := Ts f l fr ∧ fr < i
def Tv (f : Nat → Nat) (M : Mc) (i : Nat) : Prop := (M.st ≤ 5 → Ts f M.l i) ∧ (6 ≤ M.st → To f M.l M.fr i)
def Pv (f : Nat → Nat) (i : Nat) (p : Nat × Mc) : Prop := p.1 = 0 → Tv f p.2 (i + 1)
theorem pv_err {f : Nat → Nat} {i x : Nat} {M : Mc} (h : x ≠ 0) : Pv f i (x, M) := fun e => absurd e h
theorem pv_ite {f : Nat → Nat} {i : Nat} {c : Prop} [Decidable c] {p q : Nat × Mc} (h1 : c → Pv f i p) (h2 : ¬ c → Pv f i q) : Pv f i (if c then p else q) := by
  by_cases h : c
  · rw [if_pos h]; exact h1 h
  · rw [if_neg h]; exact h2 h
section
variable {f : Nat → Nat} {M : Mc} {i : Nat}
theorem ts_push {l : List Tk} (h : Ts f l i) (k : Nat) {m : Nat} (hm : 1 ≤ m) : Ts f (l ++ [(k, i, m)]) (i + m) := by
  obtain ⟨e, h1, h2, h3⟩ := h
  exact ⟨i + m, ch_snoc l 0 h1 h2 h3 hm, Nat.le_refl _, fun j a b => by omega⟩
theorem one_tv (h : Ts f M.l i) (k s : Nat) (hs : s ≤ 5) : Tv f (one M k i s) (i + 1) := ⟨fun _ => ts_push h k (Nat.le_refl _), fun e => by simp [one] at e; omega⟩
theorem atom_ts (h : To f M.l M.fr i) : Ts f (atom M i).l i := by
  obtain ⟨h1, h2⟩ := h
  have := ts_push h1 5 (m := i - M.fr) (by omega)
  rw [show M.fr + (i - M.fr) = i by omega] at this
  exact this
theorem atom_tv (h : To f M.l M.fr i) : Tv f (atom M i) i := ⟨fun _ => atom_ts h, fun e => by
  have : (if M.nm then 4 else 5 : Nat) ≤ 5 := by split <;> decide
  simp only [atom] at e; omega⟩
theorem next_tv (h : Ts f M.l i) (c : Nat) : Pv f i (next M c i) := by
  unfold next
  cases M.stack with
  | nil => exact pv_err (by decide)
  | cons b S => exact pv_ite (fun _ _ => one_tv h 3 0 (by decide)) (fun _ => pv_ite (fun _ _ => one_tv h 3 3 (by decide)) (fun _ => pv_ite (fun _ _ => one_tv (M := { M with stack := S }) h 2 5 (by decide)) (fun _ => pv_err (by decide))))
theorem begin_tv (h : Ts f M.l i) (c : Nat) : Pv f i (begin' M c i) := by
  have ho : ∀ M' : Mc, M'.l = M.l → M'.fr = i → 6 ≤ M'.st → Tv f M' (i + 1) := fun M' h1 h2 h3 => ⟨fun e => by omega, fun _ => by rw [h1, h2]; exact ⟨h, Nat.lt_succ_self _⟩⟩
  unfold begin'
  refine pv_ite (fun _ => pv_ite (fun _ => pv_err (by decide)) (fun _ _ => ⟨fun _ => ts_push h 1 (Nat.le_refl _), fun e => ?_⟩)) (fun _ => ?_)
  · have : (if c = 123 then 2 else 1 : Nat) ≤ 5 := by split <;> decide
    simp only at e; omega
  refine pv_ite (fun _ _ => ho _ rfl rfl (by simp)) (fun _ => pv_ite (fun _ _ => ho _ rfl rfl (by simp)) (fun _ => pv_ite (fun _ _ => ho _ rfl rfl (by simp)) (fun _ => pv_ite (fun _ _ => ho _ rfl rfl (by simp)) (fun _ => pv_ite (fun _ _ => ho _ rfl rfl (by simp)) (fun _ => pv_ite (fun _ _ => ho _ rfl rfl (by simp)) (fun _ => pv_ite (fun _ _ => ho _ rfl rfl (by simp)) (fun _ => pv_err (by decide))))))))
theorem up_tv (h : To f M.l M.fr i) (M' : Mc) (h1 : M'.l = M.l) (h2 : M'.fr = M.fr) (h3 : 6 ≤ M'.st) : Tv f M' (i + 1) := ⟨fun e => by omega, fun _ => by rw [h1, h2]; exact ⟨h.1, by have := h.2; omega⟩⟩
theorem atom_up (h : To f M.l M.fr i) : Tv f (atom M (i + 1)) (i + 1) := atom_tv ⟨h.1, by have := h.2; omega⟩
theorem inside_tv (h : To f M.l M.fr i) (hs : M.st = 6 ∨ M.st = 7 ∨ M.st = 8 ∨ M.st = 17) (c : Nat) : Pv f i (inside M c i) := by
  unfold inside
  refine pv_ite (fun q => pv_ite (fun _ => pv_err (by decide)) (fun _ => pv_ite (fun _ _ => atom_up h) (fun _ => pv_ite (fun _ _ => up_tv h _ rfl rfl (by simp)) (fun _ _ => up_tv h _ rfl rfl (by simp only; omega))))) (fun _ => ?_)
  refine pv_ite (fun q => pv_ite (fun _ _ => up_tv h _ rfl rfl (by simp)) (fun _ => pv_ite (fun _ _ => up_tv h _ rfl rfl (by simp)) (fun _ => pv_err (by decide)))) (fun _ => ?_)
  refine pv_ite (fun q => pv_ite (fun _ _ => up_tv h _ rfl rfl (by simp only; split <;> decide)) (fun _ => pv_err (by decide))) (fun _ => ?_)
  cases M.left with
  | nil => exact pv_err (by decide)
  | cons b r => exact pv_ite (fun _ => pv_err (by decide)) (fun _ => pv_ite (fun _ _ => atom_up (M := { M with left := r }) h) (fun _ _ => up_tv h _ rfl rfl (by simp only; omega)))
theorem feedA_tv (h : Tv f M i) (h17 : M.st ≤ 17) (he : ends M.st = false) : Pv f i (feedA M (f i) i) := by
  unfold feedA
  refine pv_ite (fun q => inside_tv (h.2 (by omega)) q _) (fun q1 => pv_ite (fun _ => pv_err (by decide)) (fun q2 => ?_))
  refine pv_ite (fun q _ => ⟨fun h5 => ?_, fun h6 => ⟨(h.2 h6).1, by have := (h.2 h6).2; simp only; omega⟩⟩) (fun _ => ?_)
  · obtain ⟨e, a, b, c⟩ := h.1 h5
    exact ⟨e, a, by omega, fun j h1 h2 => by
      by_cases hj : j < i
      · exact c j h1 hj
      · obtain rfl : j = i := by omega
        exact q⟩
  refine pv_ite (fun q => begin_tv (h.1 (by omega)) _) (fun _ => pv_ite (fun q => pv_ite (fun _ => next_tv (h.1 (by omega)) _) (fun _ => begin_tv (h.1 (by omega)) _)) (fun _ => pv_ite (fun q => ?_) (fun _ => pv_ite (fun q => pv_ite (fun _ => pv_err (by decide)) (fun _ _ => one_tv (h.1 (by omega)) 4 0 (by decide))) (fun _ => ?_))))
  · exact pv_ite (fun _ => next_tv (h.1 (by omega)) _) (fun _ => pv_ite (fun _ => pv_err (by decide)) (fun _ _ => ⟨fun e => absurd e (by simp), fun _ => ⟨h.1 (by omega), Nat.lt_succ_self _⟩⟩))
  · have : ¬ (M.st = 10 ∨ M.st = 11 ∨ M.st = 13 ∨ M.st = 16) := fun q => by rw [ends_iff.2 q] at he; cases he
    exact next_tv (h.1 (by omega)) _
theorem feed_tv (h : Tv f M i) (h17 : M.st ≤ 17) : Pv f i (feed M (f i) i) := by
  unfold feed
  refine pv_ite (fun q _ => ?_) (fun _ => ?_)
  · obtain ⟨a, b, _, _⟩ := numb_ge q
    exact up_tv (h.2 a) _ rfl rfl b
  · cases he : ends M.st with
    | true =>
      have h6 := ends_iff.1 he
      have e5 : (atom M i).st ≤ 5 := by simp only [atom]; split <;> decide
      refine feedA_tv (M := atom M i) (atom_tv (h.2 (by omega))) (by omega) ?_
      have : (atom M i).st = 4 ∨ (atom M i).st = 5 := by simp only [atom]; split <;> simp
      rcases this with q | q <;> rw [q] <;> rfl
    | false => exact feedA_tv h h17 he
end
theorem fin_tv {f : Nat → Nat} {M : Mc} {i : Nat} (h : Tv f M i) : (fin' M i).2.2 = 0 → Ts f (fin' M i).1 i := by
  unfold fin'
  cases he : ends M.st with
  | true =>
    have h6 := ends_iff.1 he
    simp only [if_true]
    unfold finA
    split
    · intro e; cases e
    · intro _; exact atom_ts (h.2 (by omega))
  | false =>
    simp only [Bool.false_eq_true, if_false]
    unfold finA
    split
    · intro e; cases e
    · rename_i q
      intro _
      exact h.1 (by have : M.st = 5 := by (apply Decidable.byContradiction; intro c; exact q (Or.inl c))
                    omega)
theorem run_tv {f : Nat → Nat} (hf : ∀ j, f j < 256) : ∀ (k i : Nat) (M : Mc), Tv f M i → Iv M i → (run f k i M).2.2 = 0 → Ts f (run f k i M).1 (i + k)
  | 0, i, M, h, hv, e => fin_tv h e
  | k + 1, i, M, h, hv, e => by
    unfold run at e ⊢
    by_cases h0 : (feed M (f i) i).1 = 0
    · rw [if_pos h0] at e ⊢
      have := run_tv hf k (i + 1) _ (feed_tv h hv.s h0) (feed_iv (hf i) hv h0) e
      rwa [show i + 1 + k = i + (k + 1) by omega] at this
    · rw [if_neg h0] at e
      exact absurd e h0
/-- The tokens of a text, with blanks between, are the text. -/
theorem ans_tv {f : Nat → Nat} (hf : ∀ j, f j < 256) (n : Nat) (e : (ans f n).2.2 = 0) : Ts f (ans f n).1 n := by
  have := run_tv hf (n - 0) 0 M0 ⟨fun _ => ⟨0, rfl, Nat.le_refl _, fun j a b => by omega⟩, fun e => absurd e (by decide)⟩ iv0 e
  rw [show 0 + (n - 0) = n by omega] at this
  exact this
theorem ans_tok {f : Nat → Nat} (hf : ∀ j, f j < 256) (n : Nat) : ∀ t ∈ (ans f n).1, t.2.1 + t.2.2 ≤ n := by
  by_cases e : (ans f n).2.2 = 0
  · obtain ⟨x, h1, h2, _⟩ := ans_tv hf n e
    intro t ht
    have := (ch_le _ _ h1).2 t ht
    omega
  · rcases ans_cases f n with h | h | ⟨j, x, _, _, h, _⟩
    · exact absurd h.1 e
    · rw [h]; simp
    · rw [h]; simp
theorem ans_at {f : Nat → Nat} (n : Nat) : (ans f n).2.1 ≤ n := by
  rcases ans_cases f n with h | h | ⟨j, x, hj, _, h, _⟩
  · omega
  · rw [h]; exact Nat.le_refl _
  · rw [h]; exact Nat.le_of_lt hj
end Go.Proofs.Ytapghnmeiahgoaa
