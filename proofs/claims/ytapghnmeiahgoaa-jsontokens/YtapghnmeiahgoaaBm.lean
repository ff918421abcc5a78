/- Blanks ahead of a text change where its tokens are, and nothing else. -/
import Derived.Test.YtapghnmeiahgoaaAp
namespace Go.Proofs.Ytapghnmeiahgoaa
open Go.ChangeShapes Go.WideShapes Go.ChangeAt Go.RowKit Go.Proofs.PlatenJson
set_option linter.unusedVariables false

def shT (m : Nat) (t : Tk) : Tk := (t.1, t.2.1 + m, t.2.2)
/-- Two machines, one m bytes further. -/
structure Rl (m : Nat) (M M' : Mc) : Prop where
  st : M'.st = M.st
  stack : M'.stack = M.stack
  nm : M'.nm = M.nm
  left : M.st = 17 → M'.left = M.left
  cnt : M.st = 8 → M'.cnt = M.cnt
  l : M'.l = M.l.map (shT m)
  fr : 6 ≤ M.st → M'.fr = M.fr + m
def Rp (m : Nat) (p p' : Nat × Mc) : Prop := p'.1 = p.1 ∧ (p.1 = 0 → Rl m p.2 p'.2)
theorem rp_err {m x : Nat} {M M' : Mc} (h : x ≠ 0) : Rp m (x, M) (x, M') := ⟨rfl, fun e => absurd e h⟩
theorem rp_ite {m : Nat} {c : Prop} [Decidable c] {p q p' q' : Nat × Mc} (h1 : c → Rp m p p') (h2 : ¬ c → Rp m q q') : Rp m (if c then p else q) (if c then p' else q') := by
  by_cases h : c
  · rw [if_pos h, if_pos h]; exact h1 h
  · rw [if_neg h, if_neg h]; exact h2 h
section
variable {m : Nat} {M M' : Mc} {c i : Nat}
theorem one_rel (h : Rl m M M') (k s : Nat) (hs : s ≤ 5) : Rl m (one M k i s) (one M' k (i + m) s) :=
  ⟨rfl, h.stack, h.nm, fun e => by simp [one] at e; omega, fun e => by simp [one] at e; omega, by simp [one, h.l, shT], fun e => by simp [one] at e; omega⟩
theorem pop_rel (h : Rl m M M') (S : List Nat) : Rl m { M with stack := S } { M' with stack := S } := ⟨h.st, rfl, h.nm, h.left, h.cnt, h.l, h.fr⟩
theorem atom_rel (h : Rl m M M') (h6 : 6 ≤ M.st) : Rl m (atom M i) (atom M' (i + m)) := by
  have e : ∀ s : Bool, (if s then 4 else 5 : Nat) ≤ 5 := by decide
  refine ⟨?_, h.stack, rfl, ?_, ?_, ?_, ?_⟩
  · simp [atom, h.nm]
  · intro q; have := e M.nm; simp only [atom] at q; omega
  · intro q; have := e M.nm; simp only [atom] at q; omega
  · simp only [atom, h.l, h.fr h6, List.map_append, List.map_cons, List.map_nil, shT, Nat.add_sub_add_right]
  · intro q; have := e M.nm; simp only [atom] at q; omega
theorem next_rel (h : Rl m M M') : Rp m (next M c i) (next M' c (i + m)) := by
  unfold next
  rw [h.stack]
  cases hS : M.stack with
  | nil => exact rp_err (by decide)
  | cons b S =>
    refine rp_ite (fun _ => ⟨rfl, fun _ => one_rel h 3 0 (by decide)⟩) (fun _ => rp_ite (fun _ => ⟨rfl, fun _ => one_rel h 3 3 (by decide)⟩) (fun _ => rp_ite (fun _ => ⟨rfl, fun _ => one_rel (pop_rel h S) 2 5 (by decide)⟩) (fun _ => rp_err (by decide))))
theorem beg_rel (h : Rl m M M') (s : Nat) (hs : s ≠ 17) (hs8 : s ≠ 8) : Rl m { M with fr := i, st := s } { M' with fr := i + m, st := s } := ⟨rfl, h.stack, h.nm, fun e => absurd e hs, fun e => absurd e hs8, h.l, fun _ => rfl⟩
theorem word_rel (h : Rl m M M') (l : List Nat) : Rl m { M with fr := i, st := 17, left := l } { M' with fr := i + m, st := 17, left := l } := ⟨rfl, h.stack, h.nm, fun _ => rfl, (fun e => by cases e), h.l, fun _ => rfl⟩
theorem begin_rel (h : Rl m M M') : Rp m (begin' M c i) (begin' M' c (i + m)) := by
  unfold begin'
  rw [show M'.stack.length = M.stack.length by rw [h.stack]]
  refine rp_ite (fun _ => rp_ite (fun _ => rp_err (by decide)) (fun _ => ⟨rfl, fun _ => ⟨rfl, (by show c :: M'.stack = c :: M.stack; rw [h.stack]), h.nm, ?_, ?_, by simp [h.l, shT], ?_⟩⟩)) (fun _ => ?_)
  · intro e; simp only at e; split at e <;> cases e
  · intro e; simp only at e; split at e <;> cases e
  · intro e; simp only at e; split at e <;> omega
  refine rp_ite (fun _ => ⟨rfl, fun _ => beg_rel h 6 (by decide) (by decide)⟩) (fun _ => ?_)
  refine rp_ite (fun _ => ⟨rfl, fun _ => beg_rel h 9 (by decide) (by decide)⟩) (fun _ => ?_)
  refine rp_ite (fun _ => ⟨rfl, fun _ => beg_rel h 10 (by decide) (by decide)⟩) (fun _ => ?_)
  refine rp_ite (fun _ => ⟨rfl, fun _ => beg_rel h 11 (by decide) (by decide)⟩) (fun _ => ?_)
  refine rp_ite (fun _ => ⟨rfl, fun _ => word_rel h _⟩) (fun _ => ?_)
  refine rp_ite (fun _ => ⟨rfl, fun _ => word_rel h _⟩) (fun _ => ?_)
  exact rp_ite (fun _ => ⟨rfl, fun _ => word_rel h _⟩) (fun _ => rp_err (by decide))
theorem st_rel (h : Rl m M M') (h6 : 6 ≤ M.st) (s : Nat) (hs : s ≠ 17) (hs8 : s ≠ 8) : Rl m { M with st := s } { M' with st := s } := ⟨rfl, h.stack, h.nm, fun e => absurd e hs, fun e => absurd e hs8, h.l, fun _ => h.fr h6⟩
theorem inside_rel (h : Rl m M M') (hs : M.st = 6 ∨ M.st = 7 ∨ M.st = 8 ∨ M.st = 17) : Rp m (inside M c i) (inside M' c (i + m)) := by
  have h6 : 6 ≤ M.st := by omega
  unfold inside
  rw [h.st]
  refine rp_ite (fun q => ?_) (fun q6 => rp_ite (fun q => ?_) (fun q7 => rp_ite (fun q => ?_) (fun q8 => ?_)))
  · refine rp_ite (fun _ => rp_err (by decide)) (fun _ => rp_ite (fun _ => ⟨rfl, fun _ => ?_⟩) (fun _ => rp_ite (fun _ => ⟨rfl, fun _ => st_rel h h6 7 (by decide) (by decide)⟩) (fun _ => ⟨rfl, fun _ => h⟩)))
    rw [show i + m + 1 = i + 1 + m by omega]
    exact atom_rel h h6
  · refine rp_ite (fun _ => ⟨rfl, fun _ => ⟨rfl, h.stack, h.nm, (fun e => by cases e), fun _ => rfl, h.l, fun _ => h.fr h6⟩⟩) (fun _ => rp_ite (fun _ => ⟨rfl, fun _ => st_rel h h6 6 (by decide) (by decide)⟩) (fun _ => rp_err (by decide)))
  · rw [h.cnt q]
    refine rp_ite (fun _ => ⟨rfl, fun _ => ⟨rfl, h.stack, h.nm, ?_, fun _ => rfl, h.l, fun _ => h.fr h6⟩⟩) (fun _ => rp_err (by decide))
    intro e; simp only at e; split at e <;> cases e
  · have hl := h.left (by omega)
    rw [hl]
    cases hL : M.left with
    | nil => exact rp_err (by decide)
    | cons b r =>
      refine rp_ite (fun _ => rp_err (by decide)) (fun _ => rp_ite (fun _ => ⟨rfl, fun _ => ?_⟩) (fun _ => ⟨rfl, fun _ => ⟨rfl, h.stack, h.nm, fun _ => rfl, fun e => h.cnt e, h.l, h.fr⟩⟩))
      rw [show i + m + 1 = i + 1 + m by omega]
      exact atom_rel (M := { M with left := r }) (M' := { M' with left := r, st := M.st }) ⟨rfl, h.stack, h.nm, fun _ => rfl, h.cnt, h.l, h.fr⟩ h6
theorem feedA_rel (h : Rl m M M') : Rp m (feedA M c i) (feedA M' c (i + m)) := by
  unfold feedA
  rw [h.st]
  refine rp_ite (fun q => inside_rel h q) (fun _ => rp_ite (fun _ => rp_err (by decide)) (fun _ => rp_ite (fun _ => ⟨rfl, fun _ => h⟩) (fun _ => rp_ite (fun _ => begin_rel h) (fun _ => rp_ite (fun _ => rp_ite (fun _ => next_rel h) (fun _ => begin_rel h)) (fun _ => rp_ite (fun _ => ?_) (fun _ => rp_ite (fun _ => rp_ite (fun _ => rp_err (by decide)) (fun _ => ⟨rfl, fun _ => one_rel h 4 0 (by decide)⟩)) (fun _ => next_rel h)))))))
  exact rp_ite (fun _ => next_rel h) (fun _ => rp_ite (fun _ => rp_err (by decide)) (fun _ => ⟨rfl, fun _ => ⟨rfl, h.stack, rfl, (fun e => by cases e), (fun e => by cases e), h.l, fun _ => rfl⟩⟩))
theorem numb_ge {s c : Nat} (h : (numb s c).2 = true) : 6 ≤ s ∧ 6 ≤ (numb s c).1 ∧ (numb s c).1 ≠ 17 ∧ (numb s c).1 ≠ 8 := by
  unfold numb at h ⊢
  repeat' split at h
  all_goals first | (simp_all; done) | (simp_all; omega)
theorem ends_rel (h : Rl m M M') : Rl m (if ends M.st then atom M i else M) (if ends M.st then atom M' (i + m) else M') := by
  cases he : ends M.st with
  | true =>
    have := ends_iff.1 he
    exact atom_rel h (by omega)
  | false => exact h
theorem feed_rel (h : Rl m M M') : Rp m (feed M c i) (feed M' c (i + m)) := by
  unfold feed
  rw [h.st]
  refine rp_ite (fun q => ⟨rfl, fun _ => ?_⟩) (fun _ => feedA_rel (ends_rel h))
  obtain ⟨a, b, c17, c8⟩ := numb_ge q
  exact st_rel h a _ c17 c8
/-- What comes of an answer. -/
def shR (m : Nat) (o : Res) : Res := (o.1.map (shT m), if o.2.2 = 0 then 0 else o.2.1 + m, o.2.2)
theorem finA_rel (h : Rl m M M') : finA M' (i + m) = shR m (finA M i) := by
  unfold finA
  rw [h.st, h.stack]
  split
  · rfl
  · simp [shR, h.l]
theorem fin_rel (h : Rl m M M') : fin' M' (i + m) = shR m (fin' M i) := by
  unfold fin'
  rw [h.st]
  exact finA_rel (ends_rel h)
end
theorem run_rel {m : Nat} {f f' : Nat → Nat} : ∀ (k i : Nat) (M M' : Mc), Rl m M M' → (∀ j, i ≤ j → j < i + k → f' (j + m) = f j) → run f' k (i + m) M' = shR m (run f k i M)
  | 0, i, M, M', h, _ => fin_rel h
  | k + 1, i, M, M', h, hf => by
    obtain ⟨h1, h2⟩ := feed_rel (c := f i) (i := i) h
    unfold run
    rw [hf i (Nat.le_refl _) (by omega), h1]
    by_cases h0 : (feed M (f i) i).1 = 0
    · rw [if_pos h0, if_pos h0, show i + m + 1 = (i + 1) + m by omega]
      exact run_rel k (i + 1) _ _ (h2 h0) (fun j a b => hf j (by omega) (by omega))
    · rw [if_neg h0, if_neg h0]
      simp [shR, h0]
theorem ans_blanks {m n : Nat} {f f' : Nat → Nat} (hb : ∀ j, j < m → isB (f' j) = true) (hf : ∀ j, j < n → f' (j + m) = f j) : ans f' (m + n) = shR m (ans f n) := by
  have s0 := Go.Proofs.PlatenJson.start f' (m + n)
  have sm : ∀ j, j ≤ m → Cv f' (m + n) (ans f' (m + n)) 0 [] [] false j := by
    intro j
    induction j with
    | zero => intro _; exact s0
    | succ j ih => intro hj; exact b_one (ih (by omega)) (by decide) (by omega) (hb j (by omega))
  obtain ⟨fr, M', h1, h2, h3, h4, h5, h6⟩ := sm m (Nat.le_refl _)
  rw [h6]
  unfold out
  rw [show m + n - m = n by omega]
  have hr : Rl m M0 M' := ⟨h1, h2, h4, (fun e => by cases e), (fun e => by cases e), (by rw [h3]; rfl), fun e => absurd e (by decide)⟩
  have := run_rel n 0 M0 M' hr (fun j _ hj => hf j (by omega))
  rw [Nat.zero_add] at this
  exact this
end Go.Proofs.Ytapghnmeiahgoaa
