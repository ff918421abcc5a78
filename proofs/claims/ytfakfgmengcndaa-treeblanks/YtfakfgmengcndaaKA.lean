/- The document's machine for S-expressions as plain mathematics, and its steps, as a reader that descends meets them. -/
import Derived.Lib.DecodeN
namespace Go.Proofs.PlatenSexp
set_option linter.unusedVariables false

abbrev Tk := Nat × Nat × Nat
/-- The machine: its state (0 an expression must come, 1 within a list, 2 behind a comma, 3 an atom, 4 a string, 5 behind a backslash, 6 the end), how many are open, where an atom began, the tokens. -/
structure Sm where
  st : Nat
  dep : Nat
  fr : Nat
  l : List Tk
abbrev Res := List Tk × Nat × Nat
def isB (c : Nat) : Bool := decide (c = 32) || decide (c = 9) || decide (c = 10) || decide (c = 13)
def isP (c : Nat) : Bool := decide (32 < c) && !(decide (c = 40) || decide (c = 41) || decide (c = 34) || decide (c = 39) || decide (c = 96) || decide (c = 44) || decide (c = 59) || decide (c = 127))
/-- The state behind an expression. -/
def aft (dep : Nat) : Nat := if dep = 0 then 6 else 1
def start (M : Sm) (c i : Nat) : Nat × Sm :=
  if c = 39 ∨ c = 96 then (0, ⟨0, M.dep, i, M.l ++ [(6, i, 1)]⟩)
  else if c = 44 then (0, ⟨2, M.dep, i, M.l⟩)
  else if c = 40 then (if M.dep = 512 then (6, ⟨M.st, M.dep, i, M.l⟩) else (0, ⟨1, M.dep + 1, i, M.l ++ [(1, i, 1)]⟩))
  else if c = 34 then (0, ⟨4, M.dep, i, M.l⟩)
  else if isP c = true ∧ c ≠ 64 then (0, ⟨3, M.dep, i, M.l⟩)
  else (5, ⟨M.st, M.dep, i, M.l⟩)
def feedB (M : Sm) (c i : Nat) : Nat × Sm :=
  if isB c then (0, M)
  else if M.st = 6 then (5, M)
  else if c = 41 ∧ M.st = 1 then (0, ⟨aft (M.dep - 1), M.dep - 1, M.fr, M.l ++ [(2, i, 1)]⟩)
  else start M c i
def feed (M : Sm) (c i : Nat) : Nat × Sm :=
  if M.st = 4 then
    (if c = 34 then (0, ⟨aft M.dep, M.dep, M.fr, M.l ++ [(5, M.fr, i + 1 - M.fr)]⟩) else if c = 92 then (0, ⟨5, M.dep, M.fr, M.l⟩) else (0, M))
  else if M.st = 5 then (0, ⟨4, M.dep, M.fr, M.l⟩)
  else if M.st = 3 then
    (if isP c then (0, M) else feedB ⟨aft M.dep, M.dep, M.fr, M.l ++ [(5, M.fr, i - M.fr)]⟩ c i)
  else if M.st = 2 then
    (if c = 64 then (0, ⟨0, M.dep, M.fr, M.l ++ [(6, M.fr, i + 1 - M.fr)]⟩) else feedB ⟨0, M.dep, M.fr, M.l ++ [(6, M.fr, i - M.fr)]⟩ c i)
  else feedB M c i
def finA (M : Sm) (n : Nat) : Res := if M.st ≠ 6 then ([], n, 5) else (M.l, 0, 0)
def fin' (M : Sm) (n : Nat) : Res := finA (if M.st = 3 then ⟨aft M.dep, M.dep, M.fr, M.l ++ [(5, M.fr, n - M.fr)]⟩ else M) n
def run (f : Nat → Nat) : Nat → Nat → Sm → Res
  | 0, i, M => fin' M i
  | k + 1, i, M => if (feed M (f i) i).1 = 0 then run f k (i + 1) (feed M (f i) i).2 else ([], i, (feed M (f i) i).1)
/-- What the machine answers that stands ahead of byte i of n. -/
def out (f : Nat → Nat) (n : Nat) (M : Sm) (i : Nat) : Res := run f (n - i) i M
def M0 : Sm := ⟨0, 0, 0, []⟩
/-- The document's answer. -/
def ans (f : Nat → Nat) (n : Nat) : Res := out f n M0 0

theorem out_ok {f : Nat → Nat} {n : Nat} {M M' : Sm} {i : Nat} (h : i < n) (e : feed M (f i) i = (0, M')) : out f n M i = out f n M' (i + 1) := by
  unfold out
  rw [show n - i = (n - (i + 1)) + 1 by omega]
  simp only [run, e, if_true]
theorem out_no {f : Nat → Nat} {n : Nat} {M M' : Sm} {i x : Nat} (h : i < n) (e : feed M (f i) i = (x, M')) (hx : x ≠ 0) : out f n M i = ([], i, x) := by
  unfold out
  rw [show n - i = (n - (i + 1)) + 1 by omega]
  simp only [run, e, if_neg hx]
theorem out_end {f : Nat → Nat} {n : Nat} {M : Sm} : out f n M n = fin' M n := by
  unfold out
  rw [Nat.sub_self]
  rfl
/-- Two machines that take the next byte alike, and end alike, answer alike. -/
theorem out_same {f : Nat → Nat} {n : Nat} {M M' : Sm} {i : Nat} (hle : i ≤ n) (h1 : i < n → feed M (f i) i = feed M' (f i) i) (h2 : i = n → fin' M n = fin' M' n) : out f n M i = out f n M' i := by
  rcases Nat.lt_or_ge i n with h | h
  · unfold out
    rw [show n - i = (n - (i + 1)) + 1 by omega]
    simp only [run, h1 h]
  · obtain rfl : i = n := by omega
    rw [out_end, out_end, h2 rfl]

/-- The answer o is what the machine gives that stands at byte j so. -/
def Cur (f : Nat → Nat) (n : Nat) (o : Res) (st dep : Nat) (T : List Tk) (fr j : Nat) : Prop := o = out f n ⟨st, dep, fr, T⟩ j
def Cv (f : Nat → Nat) (n : Nat) (o : Res) (st dep : Nat) (T : List Tk) (j : Nat) : Prop := ∃ fr, Cur f n o st dep T fr j

section
variable {f : Nat → Nat} {n : Nat} {o : Res} {st dep : Nat} {T : List Tk} {fr j : Nat}

theorem Cur.cv (h : Cur f n o st dep T fr j) : Cv f n o st dep T j := ⟨_, h⟩
theorem begins (f : Nat → Nat) (n : Nat) : Cv f n (ans f n) 0 0 [] 0 := ⟨0, rfl⟩

/-! Blanks. -/
theorem b_one (h : Cv f n o st dep T j) (hs : st = 0 ∨ st = 1 ∨ st = 6) (hj : j < n) (hb : isB (f j) = true) : Cv f n o st dep T (j + 1) := by
  obtain ⟨fr, h⟩ := h
  refine ⟨fr, Eq.trans h (out_ok hj ?_)⟩
  rcases hs with rfl | rfl | rfl <;> simp [feed, feedB, hb]
/-- Blanks from i to j, and no further. -/
def Skp (f : Nat → Nat) (n i j : Nat) : Prop := i ≤ j ∧ j ≤ n ∧ (∀ k, i ≤ k → k < j → isB (f k) = true) ∧ (j < n → isB (f j) = false)
theorem b_skip {i : Nat} (hs : st = 0 ∨ st = 1 ∨ st = 6) (h : Cv f n o st dep T i) (k : Skp f n i j) : Cv f n o st dep T j := by
  obtain ⟨h1, h2, h3, _⟩ := k
  have : ∀ d, i + d ≤ j → Cv f n o st dep T (i + d) := by
    intro d
    induction d with
    | zero => intro _; exact h
    | succ d ih => intro hd; exact b_one (j := i + d) (ih (by omega)) hs (by omega) (h3 (i + d) (by omega) (by omega))
  have := this (j - i) (by omega)
  rwa [show i + (j - i) = j by omega] at this

/-! Quotes. -/
theorem nb_of {c : Nat} (h : c = 39 ∨ c = 96 ∨ c = 44 ∨ c = 40 ∨ c = 41 ∨ c = 34) : isB c = false := by
  rcases h with rfl | rfl | rfl | rfl | rfl | rfl <;> rfl
theorem q_one (h : Cv f n o st dep T j) (hs : st = 0 ∨ st = 1) (hj : j < n) (hc : f j = 39 ∨ f j = 96) : Cv f n o 0 dep (T ++ [(6, j, 1)]) (j + 1) := by
  obtain ⟨fr, h⟩ := h
  refine ⟨j, Eq.trans h (out_ok hj ?_)⟩
  rcases hc with hc | hc <;> rcases hs with rfl | rfl <;> simp [feed, feedB, isB, start, hc]
theorem comma (h : Cv f n o st dep T j) (hs : st = 0 ∨ st = 1) (hj : j < n) (hc : f j = 44) : Cur f n o 2 dep T j (j + 1) := by
  obtain ⟨fr, h⟩ := h
  refine Eq.trans h (out_ok hj ?_)
  rcases hs with rfl | rfl <;> simp [feed, feedB, isB, start, hc]
theorem q_at (h : Cur f n o 2 dep T fr j) (hj : j < n) (hc : f j = 64) : Cv f n o 0 dep (T ++ [(6, fr, j + 1 - fr)]) (j + 1) :=
  ⟨fr, Eq.trans h (out_ok hj (by simp [feed, hc]))⟩
theorem q_no (h : Cur f n o 2 dep T fr j) (hj : j ≤ n) (hc : j < n → f j ≠ 64) : Cv f n o 0 dep (T ++ [(6, fr, j - fr)]) j :=
  ⟨fr, Eq.trans h (out_same hj (fun q => by simp [feed, hc q]) (fun _ => by simp [fin', finA]))⟩

/-! Lists. -/
theorem l_open (h : Cv f n o st dep T j) (hs : st = 0 ∨ st = 1) (hj : j < n) (hc : f j = 40) (hd : dep ≠ 512) : Cv f n o 1 (dep + 1) (T ++ [(1, j, 1)]) (j + 1) := by
  obtain ⟨fr, h⟩ := h
  refine ⟨j, Eq.trans h (out_ok hj ?_)⟩
  rcases hs with rfl | rfl <;> simp [feed, feedB, isB, start, hc, hd]
theorem l_deep (h : Cv f n o st dep T j) (hs : st = 0 ∨ st = 1) (hj : j < n) (hc : f j = 40) (hd : dep = 512) : o = ([], j, 6) := by
  obtain ⟨fr, h⟩ := h
  refine Eq.trans h (out_no (M' := ⟨st, dep, j, T⟩) hj ?_ (by decide))
  rcases hs with rfl | rfl <;> simp [feed, feedB, isB, start, hc, hd]
theorem l_close (h : Cv f n o 1 dep T j) (hj : j < n) (hc : f j = 41) : Cv f n o (aft (dep - 1)) (dep - 1) (T ++ [(2, j, 1)]) (j + 1) := by
  obtain ⟨fr, h⟩ := h
  exact ⟨fr, Eq.trans h (out_ok hj (by simp [feed, feedB, isB, hc]))⟩

/-! Strings. -/
theorem t_open (h : Cv f n o st dep T j) (hs : st = 0 ∨ st = 1) (hj : j < n) (hc : f j = 34) : Cur f n o 4 dep T j (j + 1) := by
  obtain ⟨fr, h⟩ := h
  refine Eq.trans h (out_ok hj ?_)
  rcases hs with rfl | rfl <;> simp [feed, feedB, isB, start, hc]
theorem t_plain (h : Cur f n o 4 dep T fr j) (hj : j < n) (h1 : f j ≠ 34) (h2 : f j ≠ 92) : Cur f n o 4 dep T fr (j + 1) :=
  Eq.trans h (out_ok hj (by simp [feed, h1, h2]))
theorem t_slash (h : Cur f n o 4 dep T fr j) (hj : j < n) (h1 : f j = 92) : Cur f n o 5 dep T fr (j + 1) :=
  Eq.trans h (out_ok hj (by simp [feed, h1]))
theorem t_any (h : Cur f n o 5 dep T fr j) (hj : j < n) : Cur f n o 4 dep T fr (j + 1) :=
  Eq.trans h (out_ok hj (by simp [feed]))
theorem t_close (h : Cur f n o 4 dep T fr j) (hj : j < n) (h1 : f j = 34) : Cv f n o (aft dep) dep (T ++ [(5, fr, j + 1 - fr)]) (j + 1) :=
  ⟨fr, Eq.trans h (out_ok hj (by simp [feed, h1]))⟩
theorem t_end (h : Cur f n o st dep T fr n) (hs : st = 4 ∨ st = 5) : o = ([], n, 5) := by
  refine Eq.trans h ?_
  rw [out_end]
  rcases hs with rfl | rfl <;> simp [fin', finA]

/-! Atoms. -/
theorem p_nb {c : Nat} (h : isP c = true) : isB c = false ∧ c ≠ 39 ∧ c ≠ 96 ∧ c ≠ 44 ∧ c ≠ 40 ∧ c ≠ 34 ∧ c ≠ 41 := by
  simp only [isP, Bool.and_eq_true, decide_eq_true_eq, Bool.not_eq_true', Bool.or_eq_false_iff, decide_eq_false_iff_not] at h
  refine ⟨?_, by omega⟩
  simp only [isB, Bool.or_eq_false_iff, decide_eq_false_iff_not]
  omega
theorem a_open (h : Cv f n o st dep T j) (hs : st = 0 ∨ st = 1) (hj : j < n) (hc : isP (f j) = true) (h6 : f j ≠ 64) : Cur f n o 3 dep T j (j + 1) := by
  obtain ⟨fr, h⟩ := h
  obtain ⟨a0, a1, a2, a3, a4, a5, a6⟩ := p_nb hc
  refine Eq.trans h (out_ok hj ?_)
  rcases hs with rfl | rfl <;> simp [feed, feedB, a0, start, hc, a1, a2, a3, a4, a5, a6, h6]
theorem a_more (h : Cur f n o 3 dep T fr j) (hj : j < n) (hc : isP (f j) = true) : Cur f n o 3 dep T fr (j + 1) :=
  Eq.trans h (out_ok hj (by simp [feed, hc]))
theorem aft_cases (d : Nat) : aft d = 6 ∧ d = 0 ∨ aft d = 1 ∧ d ≠ 0 := by unfold aft; split <;> simp [*]
theorem a_end (h : Cur f n o 3 dep T fr j) (hj : j ≤ n) (hc : j < n → isP (f j) = false) : Cv f n o (aft dep) dep (T ++ [(5, fr, j - fr)]) j := by
  refine ⟨fr, Eq.trans h (out_same hj (fun q => ?_) (fun q => ?_))⟩
  · rcases aft_cases dep with ⟨e, _⟩ | ⟨e, _⟩ <;> rw [e] <;> simp [feed, hc q, e]
  · subst q
    rcases aft_cases dep with ⟨e, _⟩ | ⟨e, _⟩ <;> rw [e] <;> simp [fin', e]

/-! What may not be, and the end. -/
/-- Bytes with which an expression begins. -/
def isX (c : Nat) : Bool := decide (c = 39) || decide (c = 96) || decide (c = 44) || decide (c = 40) || decide (c = 34) || (isP c && !decide (c = 64))
theorem x_bad (h : Cv f n o st dep T j) (hs : st = 0 ∨ st = 1) (hj : j < n) (hb : isB (f j) = false) (hx : isX (f j) = false) (h1 : st = 1 → f j ≠ 41) : o = ([], j, 5) := by
  obtain ⟨fr, h⟩ := h
  simp only [isX, Bool.or_eq_false_iff, decide_eq_false_iff_not, Bool.and_eq_false_iff, Bool.not_eq_false', decide_eq_true_eq] at hx
  obtain ⟨⟨⟨⟨⟨a1, a2⟩, a3⟩, a4⟩, a5⟩, a6⟩ := hx
  have a7 : ¬ (isP (f j) = true ∧ f j ≠ 64) := by
    intro q
    rcases a6 with e | e
    · rw [e] at q; exact absurd q.1 (by decide)
    · exact q.2 e
  refine Eq.trans h (out_no (M' := ⟨st, dep, j, T⟩) hj ?_ (by decide))
  rcases hs with rfl | rfl
  · simp only [feed, feedB, hb, start, a1, a2, a3, a4, a5, a7, if_false, Bool.false_eq_true, or_self]
    simp
  · have := h1 rfl
    simp only [feed, feedB, hb, start, a1, a2, a3, a4, a5, a7, this, if_false, Bool.false_eq_true, or_self]
    simp
theorem x_end (h : Cv f n o st dep T n) (hs : st = 0 ∨ st = 1) : o = ([], n, 5) := by
  obtain ⟨fr, h⟩ := h
  refine Eq.trans h ?_
  rw [out_end]
  rcases hs with rfl | rfl <;> simp [fin', finA]
theorem top_ok (h : Cv f n o 6 dep T n) : o = (T, 0, 0) := by
  obtain ⟨fr, h⟩ := h
  refine Eq.trans h ?_
  rw [out_end]
  simp [fin', finA]
theorem top_bad (h : Cv f n o 6 dep T j) (hj : j < n) (hb : isB (f j) = false) : o = ([], j, 5) := by
  obtain ⟨fr, h⟩ := h
  exact Eq.trans h (out_no (M' := ⟨6, dep, fr, T⟩) hj (by simp [feed, feedB, hb]) (by decide))
end

/-! Where an error is, and of which bytes it comes. -/
theorem run_congr {f f' : Nat → Nat} : ∀ (k i : Nat) (M : Sm), (∀ j, i ≤ j → j < i + k → f' j = f j) → run f' k i M = run f k i M
  | 0, _, _, _ => rfl
  | k + 1, i, M, h => by
    unfold run
    rw [h i (Nat.le_refl _) (by omega)]
    split
    · exact run_congr k (i + 1) _ (fun j h1 h2 => h j (by omega) (by omega))
    · rfl
theorem ans_congr {f f' : Nat → Nat} {n : Nat} (h : ∀ j, j < n → f' j = f j) : ans f' n = ans f n := run_congr (n - 0) 0 M0 (fun j _ hj => h j (by omega))
theorem fin_cases (M : Sm) (i : Nat) : ((fin' M i).2.2 = 0 ∧ (fin' M i).2.1 = 0) ∨ fin' M i = ([], i, 5) := by
  unfold fin' finA
  split <;> split <;> simp
theorem run_cases (f : Nat → Nat) : ∀ (k i : Nat) (M : Sm), ((run f k i M).2.2 = 0 ∧ (run f k i M).2.1 = 0) ∨ run f k i M = ([], i + k, 5) ∨
    ∃ j x, i ≤ j ∧ j < i + k ∧ x ≠ 0 ∧ run f k i M = ([], j, x) ∧ (∀ f' k', (∀ t, t ≤ j → f' t = f t) → j < i + k' → run f' k' i M = ([], j, x)) ∧ (∀ f', (∀ t, t < j → f' t = f t) → ∃ M', run f' (j - i) i M = fin' M' j)
  | 0, i, M => by
    rcases fin_cases M i with h | h
    · exact Or.inl h
    · exact Or.inr (Or.inl h)
  | k + 1, i, M => by
    by_cases h0 : (feed M (f i) i).1 = 0
    · have e : run f (k + 1) i M = run f k (i + 1) (feed M (f i) i).2 := by rw [run, if_pos h0]
      rw [e]
      rcases run_cases f k (i + 1) (feed M (f i) i).2 with h | h | ⟨j, x, h1, h2, h3, h4, h5, h6⟩
      · exact Or.inl h
      · exact Or.inr (Or.inl (by rw [h]; congr 2; omega))
      · refine Or.inr (Or.inr ⟨j, x, by omega, by omega, h3, h4, fun f' k' ha hk => ?_, fun f' ha => ?_⟩)
        · obtain ⟨q, rfl⟩ : ∃ q, k' = q + 1 := ⟨k' - 1, by omega⟩
          rw [run, ha i (by omega), if_pos h0]
          exact h5 f' q ha (by omega)
        · obtain ⟨M', hM⟩ := h6 f' ha
          refine ⟨M', ?_⟩
          rw [show j - i = (j - (i + 1)) + 1 by omega, run, ha i (by omega), if_pos h0]
          exact hM
    · have e : run f (k + 1) i M = ([], i, (feed M (f i) i).1) := by rw [run, if_neg h0]
      refine Or.inr (Or.inr ⟨i, (feed M (f i) i).1, Nat.le_refl _, by omega, h0, e, fun f' k' ha hk => ?_, fun f' ha => ⟨M, by rw [Nat.sub_self]; rfl⟩⟩)
      obtain ⟨q, rfl⟩ : ∃ q, k' = q + 1 := ⟨k' - 1, by omega⟩
      rw [run, ha i (Nat.le_refl _), if_neg h0]
/-- An answer is right, or wrong at the end, or at a byte, of which alone, and of those ahead, it comes. -/
theorem ans_cases (f : Nat → Nat) (n : Nat) : ((ans f n).2.2 = 0 ∧ (ans f n).2.1 = 0) ∨ ans f n = ([], n, 5) ∨
    ∃ j x, j < n ∧ x ≠ 0 ∧ ans f n = ([], j, x) ∧ (∀ f' n', (∀ t, t ≤ j → f' t = f t) → j < n' → ans f' n' = ([], j, x)) ∧ (∀ f', (∀ t, t < j → f' t = f t) → (ans f' j).2.2 = 0 ∨ ans f' j = ([], j, 5)) := by
  rcases run_cases f (n - 0) 0 M0 with h | h | ⟨j, x, h1, h2, h3, h4, h5, h6⟩
  · exact Or.inl h
  · exact Or.inr (Or.inl (by unfold ans out; rw [h]; congr 2; omega))
  · refine Or.inr (Or.inr ⟨j, x, by omega, h3, h4, fun f' n' ha hn => h5 f' (n' - 0) ha (by omega), fun f' ha => ?_⟩)
    obtain ⟨M', hM⟩ := h6 f' ha
    unfold ans out
    rw [hM]
    rcases fin_cases M' j with h | h
    · exact Or.inl h.1
    · exact Or.inr h
end Go.Proofs.PlatenSexp

/- The document's machine for JSON as plain mathematics, and its steps, byte by byte, as a reader that descends meets them. -/
namespace Go.Proofs.PlatenJson
set_option linter.unusedVariables false

abbrev Tk := Nat × Nat × Nat
/-- The machine: its state, what is open (the innermost first), where an atom began, whether it is a name, what is left of a word, how many signs of an escape, the tokens. -/
structure Mc where
  st : Nat
  stack : List Nat
  fr : Nat
  nm : Bool
  left : List Nat
  cnt : Nat
  l : List Tk
def isD (c : Nat) : Bool := decide (48 ≤ c) && decide (c ≤ 57)
def isH (c : Nat) : Bool := isD c || (decide (97 ≤ c) && decide (c ≤ 102)) || (decide (65 ≤ c) && decide (c ≤ 70))
def isB (c : Nat) : Bool := decide (c = 32) || decide (c = 9) || decide (c = 10) || decide (c = 13)
def isE (c : Nat) : Bool := decide (c = 34) || decide (c = 92) || decide (c = 47) || decide (c = 98) || decide (c = 102) || decide (c = 110) || decide (c = 114) || decide (c = 116)
def numb (s c : Nat) : Nat × Bool :=
  if s = 9 then (if c = 48 then (10, true) else (11, isD c))
  else if s = 10 ∨ s = 11 then (if c = 46 then (12, true) else if c = 101 ∨ c = 69 then (14, true) else (11, decide (s = 11) && isD c))
  else if s = 12 then (13, isD c)
  else if s = 13 then (if c = 101 ∨ c = 69 then (14, true) else (13, isD c))
  else if s = 14 then (if c = 43 ∨ c = 45 then (15, true) else (16, isD c))
  else if s = 15 ∨ s = 16 then (16, isD c)
  else (0, false)
def ends (s : Nat) : Bool := decide (s = 10) || decide (s = 11) || decide (s = 13) || decide (s = 16)
def atom (M : Mc) (i : Nat) : Mc := { M with l := M.l ++ [(5, M.fr, i - M.fr)], st := if M.nm then 4 else 5, nm := false }
def one (M : Mc) (k i st : Nat) : Mc := { M with l := M.l ++ [(k, i, 1)], st := st }
def begin' (M : Mc) (c i : Nat) : Nat × Mc :=
  if c = 123 ∨ c = 91 then
    if M.stack.length = 512 then (6, { M with fr := i })
    else (0, { M with fr := i, stack := c :: M.stack, l := M.l ++ [(1, i, 1)], st := if c = 123 then 2 else 1 })
  else if c = 34 then (0, { M with fr := i, st := 6 })
  else if c = 45 then (0, { M with fr := i, st := 9 })
  else if c = 48 then (0, { M with fr := i, st := 10 })
  else if isD c then (0, { M with fr := i, st := 11 })
  else if c = 116 then (0, { M with fr := i, st := 17, left := [114, 117, 101] })
  else if c = 102 then (0, { M with fr := i, st := 17, left := [97, 108, 115, 101] })
  else if c = 110 then (0, { M with fr := i, st := 17, left := [117, 108, 108] })
  else (5, { M with fr := i })
def next (M : Mc) (c i : Nat) : Nat × Mc :=
  match M.stack with
  | [] => (5, M)
  | b :: S =>
    if c = 44 ∧ b = 91 then (0, one M 3 i 0)
    else if c = 44 then (0, one M 3 i 3)
    else if (c = 93 ∧ b = 91) ∨ (c = 125 ∧ b ≠ 91) then (0, one { M with stack := S } 2 i 5)
    else (5, M)
def inside (M : Mc) (c i : Nat) : Nat × Mc :=
  if M.st = 6 then
    if c < 32 then (5, M) else if c = 34 then (0, atom M (i + 1)) else if c = 92 then (0, { M with st := 7 }) else (0, M)
  else if M.st = 7 then
    if c = 117 then (0, { M with st := 8, cnt := 4 }) else if isE c then (0, { M with st := 6 }) else (5, { M with st := 6 })
  else if M.st = 8 then
    if isH c then (0, { M with cnt := M.cnt - 1, st := if M.cnt - 1 = 0 then 6 else 8 }) else (5, M)
  else
    match M.left with
    | [] => (5, M)
    | b :: r => if c ≠ b then (5, M) else if r = [] then (0, atom { M with left := r } (i + 1)) else (0, { M with left := r })
def feedA (M : Mc) (c i : Nat) : Nat × Mc :=
  if M.st = 6 ∨ M.st = 7 ∨ M.st = 8 ∨ M.st = 17 then inside M c i
  else if M.st = 9 ∨ M.st = 12 ∨ M.st = 14 ∨ M.st = 15 then (5, M)
  else if isB c then (0, M)
  else if M.st = 0 then begin' M c i
  else if M.st = 1 then (if c = 93 then next M c i else begin' M c i)
  else if M.st = 2 ∨ M.st = 3 then
    (if c = 125 ∧ M.st = 2 then next M c i else if c ≠ 34 then (5, M) else (0, { M with fr := i, st := 6, nm := true }))
  else if M.st = 4 then (if c ≠ 58 then (5, M) else (0, one M 4 i 0))
  else next M c i
def feed (M : Mc) (c i : Nat) : Nat × Mc :=
  if (numb M.st c).2 then (0, { M with st := (numb M.st c).1 })
  else feedA (if ends M.st then atom M i else M) c i

abbrev Res := List Tk × Nat × Nat
def finA (M : Mc) (n : Nat) : Res := if M.st ≠ 5 ∨ M.stack ≠ [] then ([], n, 5) else (M.l, 0, 0)
def fin' (M : Mc) (n : Nat) : Res := finA (if ends M.st then atom M n else M) n
def run (f : Nat → Nat) : Nat → Nat → Mc → Res
  | 0, i, M => fin' M i
  | k + 1, i, M => if (feed M (f i) i).1 = 0 then run f k (i + 1) (feed M (f i) i).2 else ([], i, (feed M (f i) i).1)
/-- What the machine answers that stands ahead of byte i of n. -/
def out (f : Nat → Nat) (n : Nat) (M : Mc) (i : Nat) : Res := run f (n - i) i M
def M0 : Mc := ⟨0, [], 0, false, [], 0, []⟩
/-- The document's answer. -/
def ans (f : Nat → Nat) (n : Nat) : Res := out f n M0 0

theorem out_ok {f : Nat → Nat} {n : Nat} {M M' : Mc} {i : Nat} (h : i < n) (e : feed M (f i) i = (0, M')) : out f n M i = out f n M' (i + 1) := by
  unfold out
  rw [show n - i = (n - (i + 1)) + 1 by omega]
  simp only [run, e, if_true]
theorem out_no {f : Nat → Nat} {n : Nat} {M M' : Mc} {i x : Nat} (h : i < n) (e : feed M (f i) i = (x, M')) (hx : x ≠ 0) : out f n M i = ([], i, x) := by
  unfold out
  rw [show n - i = (n - (i + 1)) + 1 by omega]
  simp only [run, e, if_neg hx]
theorem out_end {f : Nat → Nat} {n : Nat} {M : Mc} : out f n M n = fin' M n := by
  unfold out
  rw [Nat.sub_self]
  rfl

/-- The answer o is what the machine gives that stands at byte j so. -/
def Cur (f : Nat → Nat) (n : Nat) (o : Res) (st : Nat) (S : List Nat) (T : List Tk) (nm : Bool) (fr j : Nat) : Prop :=
  ∃ M : Mc, M.st = st ∧ M.stack = S ∧ M.l = T ∧ M.nm = nm ∧ M.fr = fr ∧ o = out f n M j
def Cv (f : Nat → Nat) (n : Nat) (o : Res) (st : Nat) (S : List Nat) (T : List Tk) (nm : Bool) (j : Nat) : Prop := ∃ fr, Cur f n o st S T nm fr j
def CurH (f : Nat → Nat) (n : Nat) (o : Res) (k : Nat) (S : List Nat) (T : List Tk) (nm : Bool) (fr j : Nat) : Prop :=
  ∃ M : Mc, M.st = 8 ∧ M.cnt = k ∧ M.stack = S ∧ M.l = T ∧ M.nm = nm ∧ M.fr = fr ∧ o = out f n M j
def CurW (f : Nat → Nat) (n : Nat) (o : Res) (r : List Nat) (S : List Nat) (T : List Tk) (fr j : Nat) : Prop :=
  ∃ M : Mc, M.st = 17 ∧ M.left = r ∧ M.stack = S ∧ M.l = T ∧ M.nm = false ∧ M.fr = fr ∧ o = out f n M j

section
variable {f : Nat → Nat} {n : Nat} {o : Res} {st : Nat} {S : List Nat} {T : List Tk} {nm : Bool} {fr j : Nat}

/-! Numbers. -/
theorem s_minus (h : Cv f n o st S T nm j) (hs : st = 0 ∨ st = 1) (hj : j < n) (hc : f j = 45) : Cur f n o 9 S T nm j (j + 1) := by
  obtain ⟨_, ⟨st', S', fr', nm', left, cnt, T'⟩, h1, h2, h3, h4, h5, h6⟩ := h
  simp only at h1 h2 h3 h4 h5
  subst h1 h2 h3 h4 h5
  refine ⟨_, rfl, rfl, rfl, rfl, rfl, h6.trans (out_ok (M' := ⟨9, S', j, nm', left, cnt, T'⟩) hj ?_)⟩
  rcases hs with rfl | rfl <;> simp [feed, numb, ends, feedA, isB, begin', hc]
theorem s_zero (h : Cv f n o st S T nm j) (hs : st = 0 ∨ st = 1) (hj : j < n) (hc : f j = 48) : Cur f n o 10 S T nm j (j + 1) := by
  obtain ⟨_, ⟨st', S', fr', nm', left, cnt, T'⟩, h1, h2, h3, h4, h5, h6⟩ := h
  simp only at h1 h2 h3 h4 h5
  subst h1 h2 h3 h4 h5
  refine ⟨_, rfl, rfl, rfl, rfl, rfl, h6.trans (out_ok (M' := ⟨10, S', j, nm', left, cnt, T'⟩) hj ?_)⟩
  rcases hs with rfl | rfl <;> simp [feed, numb, ends, feedA, isB, begin', hc]
theorem isD_iff {c : Nat} : isD c = true ↔ 48 ≤ c ∧ c ≤ 57 := by simp [isD]
theorem s_digit (h : Cv f n o st S T nm j) (hs : st = 0 ∨ st = 1) (hj : j < n) (hc : isD (f j) = true) (h0 : f j ≠ 48) : Cur f n o 11 S T nm j (j + 1) := by
  obtain ⟨_, ⟨st', S', fr', nm', left, cnt, T'⟩, h1, h2, h3, h4, h5, h6⟩ := h
  simp only at h1 h2 h3 h4 h5
  subst h1 h2 h3 h4 h5
  refine ⟨_, rfl, rfl, rfl, rfl, rfl, h6.trans (out_ok (M' := ⟨11, S', j, nm', left, cnt, T'⟩) hj ?_)⟩
  obtain ⟨a, b⟩ := isD_iff.1 hc
  have x1 : ¬ f j = 32 := by omega
  have x2 : ¬ f j = 9 := by omega
  have x3 : ¬ f j = 10 := by omega
  have x4 : ¬ f j = 13 := by omega
  have x5 : ¬ f j = 123 := by omega
  have x6 : ¬ f j = 91 := by omega
  have x7 : ¬ f j = 34 := by omega
  have x8 : ¬ f j = 45 := by omega
  have x9 : ¬ f j = 93 := by omega
  rcases hs with rfl | rfl <;> simp [feed, numb, ends, feedA, isB, begin', hc, x1, x2, x3, x4, x5, x6, x7, x8, x9, h0]
/-- Bytes with which a value begins. -/
def isV (c : Nat) : Bool := decide (c = 123) || decide (c = 91) || decide (c = 34) || decide (c = 45) || isD c || decide (c = 116) || decide (c = 102) || decide (c = 110)
theorem v_bad (h : Cv f n o st S T nm j) (hs : st = 0 ∨ st = 1) (hj : j < n) (hb : isB (f j) = false) (hv : isV (f j) = false) (h1 : st = 1 → f j ≠ 93) : o = ([], j, 5) := by
  obtain ⟨_, ⟨st', S', fr', nm', left, cnt, T'⟩, e1, e2, e3, e4, e5, e6⟩ := h
  simp only at e1 e2 e3 e4 e5
  subst e1 e2 e3 e4 e5
  refine e6.trans (out_no (M' := ⟨st', S', j, nm', left, cnt, T'⟩) hj ?_ (by decide))
  simp only [isV, Bool.or_eq_false_iff, decide_eq_false_iff_not] at hv
  obtain ⟨⟨⟨⟨⟨⟨⟨a1, a2⟩, a3⟩, a4⟩, a5⟩, a6⟩, a7⟩, a8⟩ := hv
  have x48 : ¬ f j = 48 := by intro e; rw [e] at a5; simp [isD] at a5
  rcases hs with rfl | rfl
  · simp [feed, numb, ends, feedA, hb, begin', a1, a2, a3, a4, a5, a6, a7, a8, x48]
  · have := h1 rfl
    simp [feed, numb, ends, feedA, hb, begin', a1, a2, a3, a4, a5, a6, a7, a8, x48, this]
theorem v_end (h : Cv f n o st S T nm n) (hs : st ≤ 4) : o = ([], n, 5) := by
  obtain ⟨_, ⟨st', S', fr', nm', left, cnt, T'⟩, e1, e2, e3, e4, e5, e6⟩ := h
  simp only at e1 e2 e3 e4 e5
  subst e1
  rw [e6, out_end]
  have : ends st' = false := by simp [ends]; omega
  have h5 : ¬ st' = 5 := by omega
  simp [fin', finA, this, h5]
theorem m_zero (h : Cur f n o 9 S T nm fr j) (hj : j < n) (hc : f j = 48) : Cur f n o 10 S T nm fr (j + 1) := by
  obtain ⟨⟨st', S', fr', nm', left, cnt, T'⟩, h1, h2, h3, h4, h5, h6⟩ := h
  simp only at h1 h2 h3 h4 h5
  subst h1 h2 h3 h4 h5
  refine ⟨_, rfl, rfl, rfl, rfl, rfl, h6.trans (out_ok (M' := ⟨10, S', fr', nm', left, cnt, T'⟩) hj ?_)⟩
  simp [feed, numb, hc]
theorem m_digit (h : Cur f n o 9 S T nm fr j) (hj : j < n) (hc : isD (f j) = true) (h0 : f j ≠ 48) : Cur f n o 11 S T nm fr (j + 1) := by
  obtain ⟨⟨st', S', fr', nm', left, cnt, T'⟩, h1, h2, h3, h4, h5, h6⟩ := h
  simp only at h1 h2 h3 h4 h5
  subst h1 h2 h3 h4 h5
  refine ⟨_, rfl, rfl, rfl, rfl, rfl, h6.trans (out_ok (M' := ⟨11, S', fr', nm', left, cnt, T'⟩) hj ?_)⟩
  simp [feed, numb, hc, h0]
/-- A sign, a point, an e: a digit must come. -/
theorem n_bad (h : Cur f n o st S T nm fr j) (hs : st = 9 ∨ st = 12 ∨ st = 14 ∨ st = 15) (hj : j < n) (hc : isD (f j) = false) (h1 : st = 14 → f j ≠ 43 ∧ f j ≠ 45) : o = ([], j, 5) := by
  obtain ⟨⟨st', S', fr', nm', left, cnt, T'⟩, e1, e2, e3, e4, e5, e6⟩ := h
  simp only at e1 e2 e3 e4 e5
  subst e1 e2 e3 e4 e5
  have x48 : ¬ f j = 48 := by intro e; rw [e] at hc; simp [isD] at hc
  refine e6.trans (out_no (M' := ⟨st', S', fr', nm', left, cnt, T'⟩) hj ?_ (by decide))
  rcases hs with rfl | rfl | rfl | rfl
  · simp [feed, numb, ends, feedA, hc, x48]
  · simp [feed, numb, ends, feedA, hc]
  · obtain ⟨a, b⟩ := h1 rfl
    simp [feed, numb, ends, feedA, hc, a, b]
  · simp [feed, numb, ends, feedA, hc]
theorem n_bad_end (h : Cur f n o st S T nm fr n) (hs : ends st = false) (h5 : st ≠ 5) : o = ([], n, 5) := by
  obtain ⟨⟨st', S', fr', nm', left, cnt, T'⟩, e1, e2, e3, e4, e5, e6⟩ := h
  simp only at e1 e2 e3 e4 e5
  subst e1
  rw [e6, out_end]
  simp [fin', finA, hs, h5]
theorem n_digit (h : Cur f n o st S T nm fr j) (hs : st = 11 ∨ st = 13 ∨ st = 16) (hj : j < n) (hc : isD (f j) = true) : Cur f n o st S T nm fr (j + 1) := by
  obtain ⟨⟨st', S', fr', nm', left, cnt, T'⟩, h1, h2, h3, h4, h5, h6⟩ := h
  simp only at h1 h2 h3 h4 h5
  subst h1 h2 h3 h4 h5
  obtain ⟨a, b⟩ := isD_iff.1 hc
  have x1 : ¬ f j = 46 := by omega
  have x2 : ¬ f j = 101 := by omega
  have x3 : ¬ f j = 69 := by omega
  refine ⟨_, rfl, rfl, rfl, rfl, rfl, h6.trans (out_ok (M' := ⟨st', S', fr', nm', left, cnt, T'⟩) hj ?_)⟩
  rcases hs with rfl | rfl | rfl <;> simp [feed, numb, hc, x1, x2, x3]
theorem n_point (h : Cur f n o st S T nm fr j) (hs : st = 10 ∨ st = 11) (hj : j < n) (hc : f j = 46) : Cur f n o 12 S T nm fr (j + 1) := by
  obtain ⟨⟨st', S', fr', nm', left, cnt, T'⟩, h1, h2, h3, h4, h5, h6⟩ := h
  simp only at h1 h2 h3 h4 h5
  subst h1 h2 h3 h4 h5
  refine ⟨_, rfl, rfl, rfl, rfl, rfl, h6.trans (out_ok (M' := ⟨12, S', fr', nm', left, cnt, T'⟩) hj ?_)⟩
  rcases hs with rfl | rfl <;> simp [feed, numb, hc]
theorem n_frac (h : Cur f n o 12 S T nm fr j) (hj : j < n) (hc : isD (f j) = true) : Cur f n o 13 S T nm fr (j + 1) := by
  obtain ⟨⟨st', S', fr', nm', left, cnt, T'⟩, h1, h2, h3, h4, h5, h6⟩ := h
  simp only at h1 h2 h3 h4 h5
  subst h1 h2 h3 h4 h5
  refine ⟨_, rfl, rfl, rfl, rfl, rfl, h6.trans (out_ok (M' := ⟨13, S', fr', nm', left, cnt, T'⟩) hj ?_)⟩
  simp [feed, numb, hc]
theorem n_exp (h : Cur f n o st S T nm fr j) (hs : st = 10 ∨ st = 11 ∨ st = 13) (hj : j < n) (hc : f j = 101 ∨ f j = 69) : Cur f n o 14 S T nm fr (j + 1) := by
  obtain ⟨⟨st', S', fr', nm', left, cnt, T'⟩, h1, h2, h3, h4, h5, h6⟩ := h
  simp only at h1 h2 h3 h4 h5
  subst h1 h2 h3 h4 h5
  refine ⟨_, rfl, rfl, rfl, rfl, rfl, h6.trans (out_ok (M' := ⟨14, S', fr', nm', left, cnt, T'⟩) hj ?_)⟩
  rcases hc with hc | hc <;> rcases hs with rfl | rfl | rfl <;> simp [feed, numb, hc]
theorem n_sign (h : Cur f n o 14 S T nm fr j) (hj : j < n) (hc : f j = 43 ∨ f j = 45) : Cur f n o 15 S T nm fr (j + 1) := by
  obtain ⟨⟨st', S', fr', nm', left, cnt, T'⟩, h1, h2, h3, h4, h5, h6⟩ := h
  simp only at h1 h2 h3 h4 h5
  subst h1 h2 h3 h4 h5
  refine ⟨_, rfl, rfl, rfl, rfl, rfl, h6.trans (out_ok (M' := ⟨15, S', fr', nm', left, cnt, T'⟩) hj ?_)⟩
  rcases hc with hc | hc <;> simp [feed, numb, hc]
theorem n_pow (h : Cur f n o st S T nm fr j) (hs : st = 14 ∨ st = 15) (hj : j < n) (hc : isD (f j) = true) : Cur f n o 16 S T nm fr (j + 1) := by
  obtain ⟨⟨st', S', fr', nm', left, cnt, T'⟩, h1, h2, h3, h4, h5, h6⟩ := h
  simp only at h1 h2 h3 h4 h5
  subst h1 h2 h3 h4 h5
  obtain ⟨a, b⟩ := isD_iff.1 hc
  have x1 : ¬ f j = 43 := by omega
  have x2 : ¬ f j = 45 := by omega
  refine ⟨_, rfl, rfl, rfl, rfl, rfl, h6.trans (out_ok (M' := ⟨16, S', fr', nm', left, cnt, T'⟩) hj ?_)⟩
  rcases hs with rfl | rfl <;> simp [feed, numb, hc, x1, x2]
theorem ends_iff {s : Nat} : ends s = true ↔ s = 10 ∨ s = 11 ∨ s = 13 ∨ s = 16 := by simp [ends, or_assoc]
/-- A number ends where nothing goes on with it. -/
theorem n_atom (h : Cur f n o st S T nm fr j) (hs : ends st = true) (hle : j ≤ n) (hc : j < n → (numb st (f j)).2 = false) : Cv f n o (if nm then 4 else 5) S (T ++ [(5, fr, j - fr)]) false j := by
  obtain ⟨⟨st', S', fr', nm', left, cnt, T'⟩, h1, h2, h3, h4, h5, h6⟩ := h
  simp only at h1 h2 h3 h4 h5
  subst h1 h2 h3 h4 h5
  refine ⟨_, ⟨if nm' then 4 else 5, S', fr', false, left, cnt, T' ++ [(5, fr', j - fr')]⟩, rfl, rfl, rfl, rfl, rfl, h6.trans ?_⟩
  rcases Nat.lt_or_ge j n with hj | hj
  · have hn := hc hj
    have e1 : feed ⟨st', S', fr', nm', left, cnt, T'⟩ (f j) j = feed ⟨if nm' then 4 else 5, S', fr', false, left, cnt, T' ++ [(5, fr', j - fr')]⟩ (f j) j := by
      have q : (numb (if nm' then 4 else 5) (f j)).2 = false := by cases nm' <;> rfl
      have q2 : ends (if nm' then 4 else 5) = false := by cases nm' <;> rfl
      simp only [feed, hn, hs, q, q2, Bool.false_eq_true, if_false, if_true, atom]
    unfold out
    rw [show n - j = (n - (j + 1)) + 1 by omega]
    simp only [run, e1]
  · obtain rfl : j = n := by omega
    rw [out_end, out_end]
    have q2 : ends (if nm' then 4 else 5) = false := by cases nm' <;> rfl
    simp only [fin', hs, q2, atom, Bool.false_eq_true, if_false, if_true]

/-! Blanks. -/
theorem b_one (h : Cv f n o st S T nm j) (hs : st ≤ 5) (hj : j < n) (hb : isB (f j) = true) : Cv f n o st S T nm (j + 1) := by
  obtain ⟨fr, ⟨st', S', fr', nm', left, cnt, T'⟩, h1, h2, h3, h4, h5, h6⟩ := h
  simp only at h1 h2 h3 h4 h5
  subst h1 h2 h3 h4 h5
  refine ⟨_, _, rfl, rfl, rfl, rfl, rfl, h6.trans (out_ok (M' := ⟨st', S', fr', nm', left, cnt, T'⟩) hj ?_)⟩
  have a1 : (numb st' (f j)).2 = false := by
    have : st' = 0 ∨ st' = 1 ∨ st' = 2 ∨ st' = 3 ∨ st' = 4 ∨ st' = 5 := by omega
    rcases this with rfl | rfl | rfl | rfl | rfl | rfl <;> rfl
  have a2 : ends st' = false := by
    have : st' = 0 ∨ st' = 1 ∨ st' = 2 ∨ st' = 3 ∨ st' = 4 ∨ st' = 5 := by omega
    rcases this with rfl | rfl | rfl | rfl | rfl | rfl <;> rfl
  have b1 : ¬ (st' = 6 ∨ st' = 7 ∨ st' = 8 ∨ st' = 17) := by omega
  have b2 : ¬ (st' = 9 ∨ st' = 12 ∨ st' = 14 ∨ st' = 15) := by omega
  simp only [feed, a1, a2, Bool.false_eq_true, if_false, feedA, b1, b2, hb, if_true]
/-- Blanks from i to j, and no further. -/
def Skp (f : Nat → Nat) (n i j : Nat) : Prop := i ≤ j ∧ j ≤ n ∧ (∀ k, i ≤ k → k < j → isB (f k) = true) ∧ (j < n → isB (f j) = false)
theorem b_skip {i : Nat} (hs : st ≤ 5) (h : Cv f n o st S T nm i) (k : Skp f n i j) : Cv f n o st S T nm j := by
  obtain ⟨h1, h2, h3, _⟩ := k
  have : ∀ d, i + d ≤ j → Cv f n o st S T nm (i + d) := by
    intro d
    induction d with
    | zero => intro _; exact h
    | succ d ih => intro hd; exact b_one (j := i + d) (ih (by omega)) hs (by omega) (h3 (i + d) (by omega) (by omega))
  have := this (j - i) (by omega)
  rwa [show i + (j - i) = j by omega] at this

/-! Strings. -/
theorem t_open (h : Cv f n o st S T false j) (hs : st = 0 ∨ st = 1) (hj : j < n) (hc : f j = 34) : Cur f n o 6 S T false j (j + 1) := by
  obtain ⟨_, ⟨st', S', fr', nm', left, cnt, T'⟩, h1, h2, h3, h4, h5, h6⟩ := h
  simp only at h1 h2 h3 h4 h5
  subst h1 h2 h3 h4 h5
  refine ⟨_, rfl, rfl, rfl, rfl, rfl, h6.trans (out_ok (M' := ⟨6, S', j, false, left, cnt, T'⟩) hj ?_)⟩
  rcases hs with rfl | rfl <;> simp [feed, numb, ends, feedA, isB, begin', hc]
theorem t_name (h : Cv f n o st S T nm j) (hs : st = 2 ∨ st = 3) (hj : j < n) (hc : f j = 34) : Cur f n o 6 S T true j (j + 1) := by
  obtain ⟨_, ⟨st', S', fr', nm', left, cnt, T'⟩, h1, h2, h3, h4, h5, h6⟩ := h
  simp only at h1 h2 h3 h4 h5
  subst h1 h2 h3 h4 h5
  refine ⟨_, rfl, rfl, rfl, rfl, rfl, h6.trans (out_ok (M' := ⟨6, S', j, true, left, cnt, T'⟩) hj ?_)⟩
  rcases hs with rfl | rfl <;> simp [feed, numb, ends, feedA, isB, hc]
theorem name_bad (h : Cv f n o st S T nm j) (hs : st = 2 ∨ st = 3) (hj : j < n) (hb : isB (f j) = false) (hc : f j ≠ 34) (h2 : st = 2 → f j ≠ 125) : o = ([], j, 5) := by
  obtain ⟨_, ⟨st', S', fr', nm', left, cnt, T'⟩, e1, e2, e3, e4, e5, e6⟩ := h
  simp only at e1 e2 e3 e4 e5
  subst e1 e2 e3 e4 e5
  refine e6.trans (out_no (M' := ⟨st', S', fr', nm', left, cnt, T'⟩) hj ?_ (by decide))
  rcases hs with rfl | rfl
  · have := h2 rfl
    simp [feed, numb, ends, feedA, hb, hc, this]
  · simp [feed, numb, ends, feedA, hb, hc]
theorem t_plain (h : Cur f n o 6 S T nm fr j) (hj : j < n) (h1 : 32 ≤ f j) (h2 : f j ≠ 34) (h3 : f j ≠ 92) : Cur f n o 6 S T nm fr (j + 1) := by
  obtain ⟨⟨st', S', fr', nm', left, cnt, T'⟩, e1, e2, e3, e4, e5, e6⟩ := h
  simp only at e1 e2 e3 e4 e5
  subst e1 e2 e3 e4 e5
  refine ⟨_, rfl, rfl, rfl, rfl, rfl, e6.trans (out_ok (M' := ⟨6, S', fr', nm', left, cnt, T'⟩) hj ?_)⟩
  have : ¬ f j < 32 := by omega
  simp [feed, numb, ends, feedA, inside, h2, h3, this]
theorem t_low (h : Cur f n o 6 S T nm fr j) (hj : j < n) (h1 : f j < 32) : o = ([], j, 5) := by
  obtain ⟨⟨st', S', fr', nm', left, cnt, T'⟩, e1, e2, e3, e4, e5, e6⟩ := h
  simp only at e1 e2 e3 e4 e5
  subst e1 e2 e3 e4 e5
  refine e6.trans (out_no (M' := ⟨6, S', fr', nm', left, cnt, T'⟩) hj ?_ (by decide))
  simp [feed, numb, ends, feedA, inside, h1]
theorem t_close (h : Cur f n o 6 S T nm fr j) (hj : j < n) (h1 : f j = 34) : Cv f n o (if nm then 4 else 5) S (T ++ [(5, fr, j + 1 - fr)]) false (j + 1) := by
  obtain ⟨⟨st', S', fr', nm', left, cnt, T'⟩, e1, e2, e3, e4, e5, e6⟩ := h
  simp only at e1 e2 e3 e4 e5
  subst e1 e2 e3 e4 e5
  refine ⟨_, ⟨if nm' then 4 else 5, S', fr', false, left, cnt, T' ++ [(5, fr', j + 1 - fr')]⟩, rfl, rfl, rfl, rfl, rfl, e6.trans (out_ok hj ?_)⟩
  simp [feed, numb, ends, feedA, inside, h1, atom]
theorem t_esc (h : Cur f n o 6 S T nm fr j) (hj : j < n) (h1 : f j = 92) : Cur f n o 7 S T nm fr (j + 1) := by
  obtain ⟨⟨st', S', fr', nm', left, cnt, T'⟩, e1, e2, e3, e4, e5, e6⟩ := h
  simp only at e1 e2 e3 e4 e5
  subst e1 e2 e3 e4 e5
  refine ⟨_, rfl, rfl, rfl, rfl, rfl, e6.trans (out_ok (M' := ⟨7, S', fr', nm', left, cnt, T'⟩) hj ?_)⟩
  simp [feed, numb, ends, feedA, inside, h1]
theorem e_u (h : Cur f n o 7 S T nm fr j) (hj : j < n) (h1 : f j = 117) : CurH f n o 4 S T nm fr (j + 1) := by
  obtain ⟨⟨st', S', fr', nm', left, cnt, T'⟩, e1, e2, e3, e4, e5, e6⟩ := h
  simp only at e1 e2 e3 e4 e5
  subst e1 e2 e3 e4 e5
  refine ⟨_, rfl, rfl, rfl, rfl, rfl, rfl, e6.trans (out_ok (M' := ⟨8, S', fr', nm', left, 4, T'⟩) hj ?_)⟩
  simp [feed, numb, ends, feedA, inside, h1]
theorem e_one (h : Cur f n o 7 S T nm fr j) (hj : j < n) (h1 : isE (f j) = true) : Cur f n o 6 S T nm fr (j + 1) := by
  obtain ⟨⟨st', S', fr', nm', left, cnt, T'⟩, e1, e2, e3, e4, e5, e6⟩ := h
  simp only at e1 e2 e3 e4 e5
  subst e1 e2 e3 e4 e5
  refine ⟨_, rfl, rfl, rfl, rfl, rfl, e6.trans (out_ok (M' := ⟨6, S', fr', nm', left, cnt, T'⟩) hj ?_)⟩
  have : ¬ f j = 117 := by intro e; rw [e] at h1; simp [isE] at h1
  simp [feed, numb, ends, feedA, inside, h1, this]
theorem e_bad (h : Cur f n o 7 S T nm fr j) (hj : j < n) (h1 : isE (f j) = false) (h2 : f j ≠ 117) : o = ([], j, 5) := by
  obtain ⟨⟨st', S', fr', nm', left, cnt, T'⟩, e1, e2, e3, e4, e5, e6⟩ := h
  simp only at e1 e2 e3 e4 e5
  subst e1 e2 e3 e4 e5
  refine e6.trans (out_no (M' := ⟨6, S', fr', nm', left, cnt, T'⟩) hj ?_ (by decide))
  simp [feed, numb, ends, feedA, inside, h1, h2]
theorem h_one {k : Nat} (h : CurH f n o (k + 2) S T nm fr j) (hj : j < n) (h1 : isH (f j) = true) : CurH f n o (k + 1) S T nm fr (j + 1) := by
  obtain ⟨⟨st', S', fr', nm', left, cnt, T'⟩, e1, e0, e2, e3, e4, e5, e6⟩ := h
  simp only at e0 e1 e2 e3 e4 e5
  subst e0 e1 e2 e3 e4 e5
  refine ⟨_, rfl, rfl, rfl, rfl, rfl, rfl, e6.trans (out_ok (M' := ⟨8, S', fr', nm', left, k + 1, T'⟩) hj ?_)⟩
  simp [feed, numb, ends, feedA, inside, h1]
theorem h_last (h : CurH f n o 1 S T nm fr j) (hj : j < n) (h1 : isH (f j) = true) : Cur f n o 6 S T nm fr (j + 1) := by
  obtain ⟨⟨st', S', fr', nm', left, cnt, T'⟩, e1, e0, e2, e3, e4, e5, e6⟩ := h
  simp only at e0 e1 e2 e3 e4 e5
  subst e0 e1 e2 e3 e4 e5
  refine ⟨_, rfl, rfl, rfl, rfl, rfl, e6.trans (out_ok (M' := ⟨6, S', fr', nm', left, 0, T'⟩) hj ?_)⟩
  simp [feed, numb, ends, feedA, inside, h1]
theorem h_bad {k : Nat} (h : CurH f n o k S T nm fr j) (hj : j < n) (h1 : isH (f j) = false) : o = ([], j, 5) := by
  obtain ⟨⟨st', S', fr', nm', left, cnt, T'⟩, e1, e0, e2, e3, e4, e5, e6⟩ := h
  simp only at e0 e1 e2 e3 e4 e5
  subst e0 e1 e2 e3 e4 e5
  refine e6.trans (out_no (M' := ⟨8, S', fr', nm', left, cnt, T'⟩) hj ?_ (by decide))
  simp [feed, numb, ends, feedA, inside, h1]
theorem h_end {k : Nat} (h : CurH f n o k S T nm fr n) : o = ([], n, 5) := by
  obtain ⟨⟨st', S', fr', nm', left, cnt, T'⟩, e1, e0, e2, e3, e4, e5, e6⟩ := h
  simp only at e0 e1 e2 e3 e4 e5
  subst e1
  rw [e6, out_end]
  rfl

/-! Words. -/
theorem w_t (h : Cv f n o st S T false j) (hs : st = 0 ∨ st = 1) (hj : j < n) (hc : f j = 116) : CurW f n o [114, 117, 101] S T j (j + 1) := by
  obtain ⟨_, ⟨st', S', fr', nm', left, cnt, T'⟩, h1, h2, h3, h4, h5, h6⟩ := h
  simp only at h1 h2 h3 h4 h5
  subst h1 h2 h3 h4 h5
  refine ⟨_, rfl, rfl, rfl, rfl, rfl, rfl, h6.trans (out_ok (M' := ⟨17, S', j, false, [114, 117, 101], cnt, T'⟩) hj ?_)⟩
  rcases hs with rfl | rfl <;> simp [feed, numb, ends, feedA, isB, begin', hc, isD]
theorem w_f (h : Cv f n o st S T false j) (hs : st = 0 ∨ st = 1) (hj : j < n) (hc : f j = 102) : CurW f n o [97, 108, 115, 101] S T j (j + 1) := by
  obtain ⟨_, ⟨st', S', fr', nm', left, cnt, T'⟩, h1, h2, h3, h4, h5, h6⟩ := h
  simp only at h1 h2 h3 h4 h5
  subst h1 h2 h3 h4 h5
  refine ⟨_, rfl, rfl, rfl, rfl, rfl, rfl, h6.trans (out_ok (M' := ⟨17, S', j, false, [97, 108, 115, 101], cnt, T'⟩) hj ?_)⟩
  rcases hs with rfl | rfl <;> simp [feed, numb, ends, feedA, isB, begin', hc, isD]
theorem w_n (h : Cv f n o st S T false j) (hs : st = 0 ∨ st = 1) (hj : j < n) (hc : f j = 110) : CurW f n o [117, 108, 108] S T j (j + 1) := by
  obtain ⟨_, ⟨st', S', fr', nm', left, cnt, T'⟩, h1, h2, h3, h4, h5, h6⟩ := h
  simp only at h1 h2 h3 h4 h5
  subst h1 h2 h3 h4 h5
  refine ⟨_, rfl, rfl, rfl, rfl, rfl, rfl, h6.trans (out_ok (M' := ⟨17, S', j, false, [117, 108, 108], cnt, T'⟩) hj ?_)⟩
  rcases hs with rfl | rfl <;> simp [feed, numb, ends, feedA, isB, begin', hc, isD]
theorem w_one {a b : Nat} {r : List Nat} (h : CurW f n o (a :: b :: r) S T fr j) (hj : j < n) (hc : f j = a) : CurW f n o (b :: r) S T fr (j + 1) := by
  obtain ⟨⟨st', S', fr', nm', left, cnt, T'⟩, e1, e0, e2, e3, e4, e5, e6⟩ := h
  simp only at e0 e1 e2 e3 e4 e5
  subst e0 e1 e2 e3 e4 e5
  refine ⟨_, rfl, rfl, rfl, rfl, rfl, rfl, e6.trans (out_ok (M' := ⟨17, S', fr', false, b :: r, cnt, T'⟩) hj ?_)⟩
  simp [feed, numb, ends, feedA, inside, hc]
theorem w_last {a : Nat} (h : CurW f n o [a] S T fr j) (hj : j < n) (hc : f j = a) : Cv f n o 5 S (T ++ [(5, fr, j + 1 - fr)]) false (j + 1) := by
  obtain ⟨⟨st', S', fr', nm', left, cnt, T'⟩, e1, e0, e2, e3, e4, e5, e6⟩ := h
  simp only at e0 e1 e2 e3 e4 e5
  subst e0 e1 e2 e3 e4 e5
  refine ⟨_, ⟨5, S', fr', false, [], cnt, T' ++ [(5, fr', j + 1 - fr')]⟩, rfl, rfl, rfl, rfl, rfl, e6.trans (out_ok hj ?_)⟩
  simp [feed, numb, ends, feedA, inside, hc, atom]
theorem w_bad {a : Nat} {r : List Nat} (h : CurW f n o (a :: r) S T fr j) (hj : j < n) (hc : f j ≠ a) : o = ([], j, 5) := by
  obtain ⟨⟨st', S', fr', nm', left, cnt, T'⟩, e1, e0, e2, e3, e4, e5, e6⟩ := h
  simp only at e0 e1 e2 e3 e4 e5
  subst e0 e1 e2 e3 e4 e5
  refine e6.trans (out_no (M' := ⟨17, S', fr', false, a :: r, cnt, T'⟩) hj ?_ (by decide))
  simp [feed, numb, ends, feedA, inside, hc]
theorem w_end {r : List Nat} (h : CurW f n o r S T fr n) : o = ([], n, 5) := by
  obtain ⟨⟨st', S', fr', nm', left, cnt, T'⟩, e1, e0, e2, e3, e4, e5, e6⟩ := h
  simp only at e0 e1 e2 e3 e4 e5
  subst e1
  rw [e6, out_end]
  rfl

/-! Lists and objects. -/
theorem l_open (h : Cv f n o st S T nm j) (hs : st = 0 ∨ st = 1) (hj : j < n) (hc : f j = 91 ∨ f j = 123) (hd : S.length ≠ 512) : Cv f n o (if f j = 123 then 2 else 1) (f j :: S) (T ++ [(1, j, 1)]) nm (j + 1) := by
  obtain ⟨_, ⟨st', S', fr', nm', left, cnt, T'⟩, h1, h2, h3, h4, h5, h6⟩ := h
  simp only at h1 h2 h3 h4 h5
  subst h1 h2 h3 h4 h5
  refine ⟨_, ⟨if f j = 123 then 2 else 1, f j :: S', j, nm', left, cnt, T' ++ [(1, j, 1)]⟩, rfl, rfl, rfl, rfl, rfl, h6.trans (out_ok hj ?_)⟩
  rcases hc with hc | hc <;> rcases hs with rfl | rfl <;> simp [feed, numb, ends, feedA, isB, begin', hc, hd]
theorem l_deep (h : Cv f n o st S T nm j) (hs : st = 0 ∨ st = 1) (hj : j < n) (hc : f j = 91 ∨ f j = 123) (hd : S.length = 512) : o = ([], j, 6) := by
  obtain ⟨_, ⟨st', S', fr', nm', left, cnt, T'⟩, h1, h2, h3, h4, h5, h6⟩ := h
  simp only at h1 h2 h3 h4 h5
  subst h1 h2 h3 h4 h5
  refine h6.trans (out_no (M' := ⟨st', S', j, nm', left, cnt, T'⟩) hj ?_ (by decide))
  rcases hc with hc | hc <;> rcases hs with rfl | rfl <;> simp [feed, numb, ends, feedA, isB, begin', hc, hd]
theorem l_close {b : Nat} (h : Cv f n o st (b :: S) T nm j) (hs : st = 5 ∨ st = 1 ∧ b = 91 ∨ st = 2 ∧ b = 123) (hj : j < n) (hb : b = 91 ∧ f j = 93 ∨ b = 123 ∧ f j = 125) : Cv f n o 5 S (T ++ [(2, j, 1)]) nm (j + 1) := by
  obtain ⟨_, ⟨st', S', fr', nm', left, cnt, T'⟩, h1, h2, h3, h4, h5, h6⟩ := h
  simp only at h1 h2 h3 h4 h5
  subst h1 h2 h3 h4 h5
  refine ⟨_, ⟨5, S, fr', nm', left, cnt, T' ++ [(2, j, 1)]⟩, rfl, rfl, rfl, rfl, rfl, h6.trans (out_ok hj ?_)⟩
  rcases hb with ⟨rfl, hc⟩ | ⟨rfl, hc⟩
  · rcases hs with rfl | ⟨rfl, _⟩ | ⟨rfl, h⟩
    · simp [feed, numb, ends, feedA, isB, next, hc, one]
    · simp [feed, numb, ends, feedA, isB, next, hc, one]
    · simp at h
  · rcases hs with rfl | ⟨rfl, h⟩ | ⟨rfl, _⟩
    · simp [feed, numb, ends, feedA, isB, next, hc, one]
    · simp at h
    · simp [feed, numb, ends, feedA, isB, next, hc, one]
theorem l_comma {b : Nat} (h : Cv f n o 5 (b :: S) T nm j) (hj : j < n) (hc : f j = 44) : Cv f n o (if b = 91 then 0 else 3) (b :: S) (T ++ [(3, j, 1)]) nm (j + 1) := by
  obtain ⟨_, ⟨st', S', fr', nm', left, cnt, T'⟩, h1, h2, h3, h4, h5, h6⟩ := h
  simp only at h1 h2 h3 h4 h5
  subst h1 h2 h3 h4 h5
  refine ⟨_, ⟨if b = 91 then 0 else 3, b :: S, fr', nm', left, cnt, T' ++ [(3, j, 1)]⟩, rfl, rfl, rfl, rfl, rfl, h6.trans (out_ok hj ?_)⟩
  by_cases hb : b = 91
  · simp [feed, numb, ends, feedA, isB, next, hc, one, hb]
  · simp [feed, numb, ends, feedA, isB, next, hc, one, hb]
theorem l_bad {b : Nat} (h : Cv f n o 5 (b :: S) T nm j) (hj : j < n) (hB : isB (f j) = false) (h1 : f j ≠ 44) (h2 : b = 91 ∧ f j ≠ 93 ∨ b = 123 ∧ f j ≠ 125) : o = ([], j, 5) := by
  obtain ⟨_, ⟨st', S', fr', nm', left, cnt, T'⟩, e1, e2, e3, e4, e5, e6⟩ := h
  simp only at e1 e2 e3 e4 e5
  subst e1 e2 e3 e4 e5
  refine e6.trans (out_no (M' := ⟨5, b :: S, fr', nm', left, cnt, T'⟩) hj ?_ (by decide))
  rcases h2 with ⟨rfl, h2⟩ | ⟨rfl, h2⟩ <;> simp [feed, numb, ends, feedA, hB, next, h1, h2]
theorem l_end {b : Nat} (h : Cv f n o 5 (b :: S) T nm n) : o = ([], n, 5) := by
  obtain ⟨_, ⟨st', S', fr', nm', left, cnt, T'⟩, e1, e2, e3, e4, e5, e6⟩ := h
  simp only at e1 e2 e3 e4 e5
  subst e1 e2
  rw [e6, out_end]
  simp [fin', finA, ends]
theorem c_colon (h : Cv f n o 4 S T nm j) (hj : j < n) (hc : f j = 58) : Cv f n o 0 S (T ++ [(4, j, 1)]) nm (j + 1) := by
  obtain ⟨_, ⟨st', S', fr', nm', left, cnt, T'⟩, h1, h2, h3, h4, h5, h6⟩ := h
  simp only at h1 h2 h3 h4 h5
  subst h1 h2 h3 h4 h5
  refine ⟨_, ⟨0, S', fr', nm', left, cnt, T' ++ [(4, j, 1)]⟩, rfl, rfl, rfl, rfl, rfl, h6.trans (out_ok hj ?_)⟩
  simp [feed, numb, ends, feedA, isB, hc, one]
theorem c_bad (h : Cv f n o 4 S T nm j) (hj : j < n) (hb : isB (f j) = false) (hc : f j ≠ 58) : o = ([], j, 5) := by
  obtain ⟨_, ⟨st', S', fr', nm', left, cnt, T'⟩, h1, h2, h3, h4, h5, h6⟩ := h
  simp only at h1 h2 h3 h4 h5
  subst h1 h2 h3 h4 h5
  refine h6.trans (out_no (M' := ⟨4, S', fr', nm', left, cnt, T'⟩) hj ?_ (by decide))
  simp [feed, numb, ends, feedA, hb, hc]
theorem top_ok (h : Cv f n o 5 [] T nm n) : o = (T, 0, 0) := by
  obtain ⟨_, ⟨st', S', fr', nm', left, cnt, T'⟩, e1, e2, e3, e4, e5, e6⟩ := h
  simp only at e1 e2 e3 e4 e5
  subst e1 e2 e3
  rw [e6, out_end]
  simp [fin', finA, ends]
theorem top_bad (h : Cv f n o 5 [] T nm j) (hj : j < n) (hb : isB (f j) = false) : o = ([], j, 5) := by
  obtain ⟨_, ⟨st', S', fr', nm', left, cnt, T'⟩, e1, e2, e3, e4, e5, e6⟩ := h
  simp only at e1 e2 e3 e4 e5
  subst e1 e2 e3 e4 e5
  refine e6.trans (out_no (M' := ⟨5, [], fr', nm', left, cnt, T'⟩) hj ?_ (by decide))
  simp [feed, numb, ends, feedA, hb, next]
theorem Cur.cv (h : Cur f n o st S T nm fr j) : Cv f n o st S T nm j := ⟨_, h⟩
end
theorem start (f : Nat → Nat) (n : Nat) : Cv f n (ans f n) 0 [] [] false 0 := ⟨0, M0, rfl, rfl, rfl, rfl, rfl, rfl⟩
end Go.Proofs.PlatenJson

/- Layout as plain mathematics: how much an item takes, what is printed; what the laws of layout say of that. -/
namespace Go.Proofs.PlatenLayout
set_option linter.unusedVariables false

/-- An item: its kind (1 a text, 2 a break, 3 a beginning, 4 an end), its bytes and how many characters they are, its blanks, how far in, from the column, whole. -/
structure It where
  kind : Nat
  tx : List Nat
  ch : Nat
  n : Int
  off : Int
  col : Bool
  whole : Bool
def It.own (x : It) : Nat := if x.kind = 1 then x.ch else if x.kind = 2 then x.n.toNat else 0
/-- What follows, up to a break that is in no group that begins in it. -/
def brk : List It → Nat → Nat
  | [], _ => 0
  | x :: r, d =>
    if x.kind = 3 then brk r (d + 1)
    else if x.kind = 4 then brk r (d - 1)
    else if x.kind = 2 ∧ d = 0 then 0
    else x.own + brk r d
/-- What is in a group, and what follows up to such a break. -/
def grp : List It → Nat → Nat
  | [], _ => 0
  | x :: r, d =>
    if x.kind = 3 then grp r (d + 1)
    else if x.kind = 4 then (if d = 0 then brk r 0 else grp r (d - 1))
    else x.own + grp r d
def size : List It → Nat
  | [] => 0
  | x :: r => if x.kind = 1 then x.own else if x.kind = 2 then x.own + brk r 0 else if x.kind = 3 then grp r 0 else 0
def sum : List It → Nat
  | [] => 0
  | x :: r => x.own + sum r
theorem brk_le : ∀ (l : List It) (d : Nat), brk l d ≤ sum l
  | [], d => Nat.le_refl _
  | x :: r, d => by
    have h1 := brk_le r (d + 1)
    have h2 := brk_le r (d - 1)
    have h3 := brk_le r d
    unfold brk sum
    split
    · omega
    · split
      · omega
      · split <;> omega
theorem grp_le : ∀ (l : List It) (d : Nat), grp l d ≤ sum l
  | [], d => Nat.le_refl _
  | x :: r, d => by
    have h1 := grp_le r (d + 1)
    have h2 := grp_le r (d - 1)
    have h3 := grp_le r d
    have h4 := brk_le r 0
    unfold grp sum
    split
    · omega
    · split
      · split <;> omega
      · omega
theorem size_le (l : List It) : size l ≤ sum l := by
  cases l with
  | nil => exact Nat.le_refl _
  | cons x r =>
    have h1 := grp_le r 0
    have h2 := brk_le r 0
    simp only [size, sum]
    split
    · omega
    · split
      · omega
      · split <;> omega

/-- A group: on one line; all its breaks end lines; how far it stands in. -/
structure Gr where
  flat : Bool
  whole : Bool
  ind : Int
def most : Nat := 65536
/-- An item printed: p and the column, the innermost group and those around it. -/
structure Ly where
  p : List Nat
  col : Int
  g : Gr
  gs : List Gr
def sp (n : Nat) : List Nat := List.replicate n 32
/-- The next state, were there no bound. -/
def stepL (w : Int) (s : Ly) (x : It) (r : List It) : Ly :=
  if x.kind = 1 then { s with p := s.p ++ x.tx, col := s.col + (size (x :: r) : Nat) }
  else if x.kind = 3 then { s with g := ⟨decide (((size (x :: r) : Nat) : Int) ≤ w - s.col), x.whole, (if x.col then s.col else s.g.ind) + x.off⟩, gs := s.g :: s.gs }
  else if x.kind = 4 then (match s.gs with | [] => s | h :: t => { s with g := h, gs := t })
  else if x.kind = 2 then
    (if s.g.flat = true ∨ (s.g.whole = false ∧ ((size (x :: r) : Nat) : Int) ≤ w - s.col) then { s with p := s.p ++ sp x.n.toNat, col := s.col + (x.n.toNat : Nat) }
     else { s with p := s.p ++ [10] ++ sp (s.g.ind + x.off).toNat, col := ((s.g.ind + x.off).toNat : Nat) })
  else s
/-- Items printed; none: it is too much. -/
def lay (w : Int) : List It → Ly → Option (List Nat)
  | [], s => some s.p
  | x :: r, s => if most < (stepL w s x r).p.length then none else lay w r (stepL w s x r)
def s0 : Ly := ⟨[], 0, ⟨false, false, 0⟩, []⟩

/-- What comes out is never shorter than what there was. -/
theorem stepL_pre (w : Int) (s : Ly) (x : It) (r : List It) : ∃ q, (stepL w s x r).p = s.p ++ q := by
  unfold stepL
  split
  · exact ⟨_, rfl⟩
  · split
    · exact ⟨[], (List.append_nil _).symm⟩
    · split
      · split <;> exact ⟨[], (List.append_nil _).symm⟩
      · split
        · split
          · exact ⟨_, rfl⟩
          · exact ⟨_, List.append_assoc _ _ _⟩
        · exact ⟨[], (List.append_nil _).symm⟩
theorem lay_le (w : Int) : ∀ (l : List It) (s : Ly) (q : List Nat), s.p.length ≤ most → lay w l s = some q → q.length ≤ most
  | [], s, q, h, e => by
    unfold lay at e
    injection e with e
    rw [← e]; exact h
  | x :: r, s, q, h, e => by
    unfold lay at e
    split at e
    · cases e
    · exact lay_le w r _ q (by omega) e

/-! The texts come out, in order. -/
def plain (l : List Nat) : List Nat := l.filter fun c => decide (c ≠ 32) && decide (c ≠ 10)
theorem plain_app (a b : List Nat) : plain (a ++ b) = plain a ++ plain b := by simp [plain]
theorem plain_sp (n : Nat) : plain (sp n) = [] := by
  induction n with
  | zero => rfl
  | succ n ih => unfold sp; rw [List.replicate_succ]; unfold plain; rw [List.filter_cons]; exact ih
def texts : List It → List Nat
  | [] => []
  | x :: r => (if x.kind = 1 then x.tx else []) ++ texts r
theorem stepL_plain (w : Int) (s : Ly) (x : It) (r : List It) (hx : x.kind = 1 → plain x.tx = x.tx) : plain (stepL w s x r).p = plain s.p ++ (if x.kind = 1 then x.tx else []) := by
  unfold stepL
  split
  · rename_i h; rw [plain_app, hx h]
  · rw [List.append_nil]
    split
    · rfl
    · split
      · split <;> rfl
      · split
        · split
          · rw [plain_app, plain_sp, List.append_nil]
          · rw [plain_app, plain_app, plain_sp, List.append_nil]
            show plain s.p ++ [] = plain s.p
            rw [List.append_nil]
        · rfl
theorem lay_texts (w : Int) : ∀ (l : List It) (s : Ly) (q : List Nat), (∀ x ∈ l, x.kind = 1 → plain x.tx = x.tx) → lay w l s = some q → plain q = plain s.p ++ texts l
  | [], s, q, h, e => by
    unfold lay at e
    injection e with e
    rw [← e]; unfold texts; rw [List.append_nil]
  | x :: r, s, q, h, e => by
    unfold lay at e
    split at e
    · cases e
    · rw [lay_texts w r _ q (fun y hy => h y (by simp [hy])) e, stepL_plain w s x r (h x (by simp)), List.append_assoc]
      rfl

/-! What fits on one line is on one line. -/
def flatL : List It → List Nat
  | [] => []
  | x :: r => (if x.kind = 1 then x.tx else if x.kind = 2 then sp x.n.toNat else []) ++ flatL r
/-- No break stands outside all groups, where d groups are open. -/
def inner : List It → Nat → Prop
  | [], _ => True
  | x :: r, d => if x.kind = 3 then inner r (d + 1) else if x.kind = 4 then inner r (d - 1) else if x.kind = 2 then 0 < d ∧ inner r d else inner r d
theorem lay_flat (w : Int) : ∀ (l : List It) (s : Ly) (d : Nat), inner l d → ((sum l : Nat) : Int) ≤ w - s.col → (s.p ++ flatL l).length ≤ most → s.gs.length = d → (0 < d → s.g.flat = true) → (∀ g ∈ s.gs.dropLast, g.flat = true) →
    lay w l s = some (s.p ++ flatL l)
  | [], s, d, hi, hw, hm, hd, hg, hgs => by simp [lay, flatL]
  | x :: r, s, d, hi, hw, hm, hd, hg, hgs => by
    have hsz := size_le (x :: r)
    have hsum : sum (x :: r) = x.own + sum r := rfl
    have hfit : ((size (x :: r) : Nat) : Int) ≤ w - s.col := by omega
    have key : ∀ s', stepL w s x r = s' → (∃ q, s'.p = s.p ++ q ∧ flatL (x :: r) = q ++ flatL r) → (∀ (_ : s'.p ++ flatL r = s.p ++ flatL (x :: r)), lay w r s' = some (s'.p ++ flatL r)) → lay w (x :: r) s = some (s.p ++ flatL (x :: r)) := by
      intro s' e ⟨q, e1, e2⟩ e3
      have e4 : s'.p ++ flatL r = s.p ++ flatL (x :: r) := by rw [e1, e2, List.append_assoc]
      unfold lay
      rw [e, e3 e4, e4]
      rw [if_neg]
      rw [← e4, List.length_append] at hm
      omega
    unfold inner at hi
    by_cases k1 : x.kind = 1
    · have e : stepL w s x r = { s with p := s.p ++ x.tx, col := s.col + (x.ch : Nat) } := by simp [stepL, k1, size, It.own]
      rw [if_neg (by omega), if_neg (by omega), if_neg (by omega)] at hi
      refine key _ e ⟨x.tx, rfl, by simp [flatL, k1]⟩ fun e4 => lay_flat w r _ d hi ?_ (by rw [e4]; exact hm) hd hg hgs
      have : x.own = x.ch := by simp [It.own, k1]
      show ((sum r : Nat) : Int) ≤ w - (s.col + (x.ch : Nat))
      omega
    · by_cases k3 : x.kind = 3
      · have e : stepL w s x r = { s with g := ⟨true, x.whole, (if x.col then s.col else s.g.ind) + x.off⟩, gs := s.g :: s.gs } := by
          simp only [stepL, if_neg k1, if_pos k3, decide_eq_true hfit]
        rw [if_pos k3] at hi
        refine key _ e ⟨[], (List.append_nil _).symm, by simp [flatL, k3]⟩ fun e4 => lay_flat w r _ (d + 1) hi ?_ (by rw [e4]; exact hm) (by simp [hd]) (fun _ => rfl) ?_
        · show ((sum r : Nat) : Int) ≤ w - s.col
          omega
        · intro g hgm
          show g.flat = true
          cases hgs2 : s.gs with
          | nil => rw [hgs2] at hgm; simp at hgm
          | cons a t =>
            rw [hgs2] at hgm hgs hd
            simp only [List.dropLast_cons_cons, List.mem_cons] at hgm
            rcases hgm with rfl | hgm
            · exact hg (by rw [← hd]; simp)
            · exact hgs g hgm
      · by_cases k4 : x.kind = 4
        · rw [if_neg k3, if_pos k4] at hi
          have ho : x.own = 0 := by simp [It.own, k4]
          cases hgs2 : s.gs with
          | nil =>
            have e : stepL w s x r = s := by simp [stepL, k4, hgs2]
            rw [hgs2] at hd
            simp at hd
            subst hd
            exact key _ e ⟨[], (List.append_nil _).symm, by simp [flatL, k4]⟩ fun e4 => lay_flat w r _ 0 hi (by omega) (by rw [e4]; exact hm) (by rw [hgs2]; rfl) (fun h => absurd h (Nat.lt_irrefl _)) hgs
          | cons a t =>
            have e : stepL w s x r = { s with g := a, gs := t } := by simp [stepL, k4, hgs2]
            rw [hgs2] at hd hgs
            simp at hd
            subst hd
            refine key _ e ⟨[], (List.append_nil _).symm, by simp [flatL, k4]⟩ fun e4 => lay_flat w r _ t.length hi ?_ (by rw [e4]; exact hm) rfl (fun h => ?_) (fun g hg' => ?_)
            · show ((sum r : Nat) : Int) ≤ w - s.col
              omega
            · cases t with
              | nil => exact absurd h (Nat.lt_irrefl _)
              | cons b u => exact hgs a (by simp)
            · cases t with
              | nil => simp at hg'
              | cons b u => exact hgs g (by rw [List.dropLast_cons_cons]; exact List.mem_cons_of_mem _ hg')
        · by_cases k2 : x.kind = 2
          · rw [if_neg k3, if_neg k4, if_pos k2] at hi
            have hf := hg hi.1
            have e : stepL w s x r = { s with p := s.p ++ sp x.n.toNat, col := s.col + (x.n.toNat : Nat) } := by simp only [stepL, if_neg k1, if_neg k3, if_neg k4, if_pos k2, if_pos (Or.inl hf)]
            refine key _ e ⟨sp x.n.toNat, rfl, by simp [flatL, k2]⟩ fun e4 => lay_flat w r _ d hi.2 ?_ (by rw [e4]; exact hm) hd hg hgs
            have : x.own = x.n.toNat := by simp [It.own, k2]
            show ((sum r : Nat) : Int) ≤ w - (s.col + (x.n.toNat : Nat))
            omega
          · rw [if_neg k3, if_neg k4, if_neg k2] at hi
            have e : stepL w s x r = s := by simp [stepL, k1, k2, k3, k4]
            have ho : x.own = 0 := by simp [It.own, k1, k2]
            exact key _ e ⟨[], (List.append_nil _).symm, by simp [flatL, k1, k2]⟩ fun e4 => lay_flat w r _ d hi (by omega) (by rw [e4]; exact hm) hd hg hgs
end Go.Proofs.PlatenLayout

/- Plain arithmetic on signs of UTF-8 (how many bytes a sign has, where signs begin). No program is spoken of here. -/
namespace Go.Proofs.PlatenGlyph
set_option linter.unusedVariables false

/-- How many bytes a lead byte announces. -/
def lead (b : Nat) : Nat := if 194 ≤ b ∧ b ≤ 223 then 2 else if 224 ≤ b ∧ b ≤ 239 then 3 else if 240 ≤ b ∧ b ≤ 244 then 4 else 1
def low (b : Nat) : Nat := if b = 224 then 160 else if b = 240 then 144 else 128
def high (b : Nat) : Nat := if b = 237 then 159 else if b = 244 then 143 else 191

/-- The bytes of the sign at the head of n bytes (n at least 1). -/
def sz (n b0 b1 b2 b3 : Nat) : Nat :=
  if lead b0 = 1 ∨ n < lead b0 ∨ b1 < low b0 ∨ high b0 < b1 then 1
  else if 3 ≤ lead b0 ∧ (b2 < 128 ∨ 191 < b2) then 1
  else if 4 ≤ lead b0 ∧ (b3 < 128 ∨ 191 < b3) then 1
  else lead b0

theorem lead_cases (b : Nat) : lead b = 1 ∨ lead b = 2 ∨ lead b = 3 ∨ lead b = 4 := by
  unfold lead; repeat' split
  all_goals omega

theorem lead_ge {b : Nat} (h : lead b ≠ 1) : 194 ≤ b ∧ b ≤ 244 := by
  unfold lead at h; repeat' split at h
  all_goals omega

theorem low_ge (b : Nat) : 128 ≤ low b := by unfold low; repeat' split
                                             all_goals omega
theorem high_le (b : Nat) : high b ≤ 191 := by unfold high; repeat' split
                                               all_goals omega

theorem sz_pos (n b0 b1 b2 b3 : Nat) : 1 ≤ sz n b0 b1 b2 b3 ∧ sz n b0 b1 b2 b3 ≤ 4 := by
  have h := lead_cases b0
  unfold sz; repeat' split
  all_goals omega

theorem sz_le (n b0 b1 b2 b3 : Nat) (hn : 1 ≤ n) : sz n b0 b1 b2 b3 ≤ n := by
  unfold sz; repeat' split
  all_goals omega

/-- A sign of several bytes: what it is made of. -/
theorem sz_many {n b0 b1 b2 b3 : Nat} (h : sz n b0 b1 b2 b3 ≠ 1) :
    sz n b0 b1 b2 b3 = lead b0 ∧ lead b0 ≠ 1 ∧ lead b0 ≤ n ∧ (low b0 ≤ b1 ∧ b1 ≤ high b0) ∧ (3 ≤ lead b0 → 128 ≤ b2 ∧ b2 ≤ 191) ∧ (4 ≤ lead b0 → 128 ≤ b3 ∧ b3 ≤ 191) := by
  unfold sz at h ⊢
  split at h
  · omega
  rename_i h1
  split at h
  · omega
  rename_i h2
  split at h
  · omega
  rename_i h3
  rw [if_neg h1, if_neg h2, if_neg h3]
  refine ⟨rfl, h, by omega, by omega, fun _ => by omega, fun _ => by omega⟩

theorem sz_of {n b0 b1 b2 b3 : Nat} (h0 : lead b0 ≠ 1) (hn : lead b0 ≤ n) (h1 : low b0 ≤ b1 ∧ b1 ≤ high b0) (h2 : 3 ≤ lead b0 → 128 ≤ b2 ∧ b2 ≤ 191) (h3 : 4 ≤ lead b0 → 128 ≤ b3 ∧ b3 ≤ 191) :
    sz n b0 b1 b2 b3 = lead b0 := by
  unfold sz
  rw [if_neg (by omega), if_neg (by omega), if_neg (by omega)]

/-- With m bytes left in place of n: the same sign, where it fits into the m. -/
theorem sz_less {n m b0 b1 b2 b3 c1 c2 c3 : Nat} (hm : sz n b0 b1 b2 b3 ≤ m) (hmn : m ≤ n) : sz m b0 b1 b2 b3 = sz n b0 b1 b2 b3 := by
  by_cases h : sz n b0 b1 b2 b3 = 1
  · by_cases h' : sz m b0 b1 b2 b3 = 1
    · rw [h, h']
    · obtain ⟨e, a, b, c, d, f⟩ := sz_many h'
      have := sz_of (n := n) a (by omega) c d f
      omega
  · obtain ⟨e, a, b, c, d, f⟩ := sz_many h
    rw [e]
    exact sz_of a (by omega) c d f

/-- Where the sign doesn't fit into m bytes, its first byte is a sign there. -/
theorem sz_cut {n m b0 b1 b2 b3 : Nat} (hm : m < sz n b0 b1 b2 b3) (h1 : 1 ≤ m) : sz m b0 b1 b2 b3 = 1 := by
  have h : sz n b0 b1 b2 b3 ≠ 1 := by omega
  obtain ⟨e, a, b, c, d, f⟩ := sz_many h
  unfold sz
  rw [if_pos (by omega)]

theorem sz_low {n b0 b1 b2 b3 : Nat} (h : b0 < 194) : sz n b0 b1 b2 b3 = 1 := by
  by_cases h' : sz n b0 b1 b2 b3 = 1
  · exact h'
  · have := lead_ge (sz_many h').2.1
    omega

/-- What lies beyond the end plays no part. -/
theorem sz_congr {n b0 b1 b2 b3 c1 c2 c3 : Nat} (h1 : 1 < n → b1 = c1) (h2 : 2 < n → b2 = c2) (h3 : 3 < n → b3 = c3) : sz n b0 b1 b2 b3 = sz n b0 c1 c2 c3 := by
  by_cases hl : lead b0 = 1 ∨ n < lead b0
  · unfold sz
    rw [if_pos (by omega), if_pos (by omega)]
  · have hc := lead_cases b0
    have e1 : b1 = c1 := h1 (by omega)
    subst e1
    by_cases h3' : 3 ≤ lead b0
    · have e2 : b2 = c2 := h2 (by omega)
      subst e2
      by_cases h4' : 4 ≤ lead b0
      · have e3 : b3 = c3 := h3 (by omega)
        subst e3
        rfl
      · unfold sz
        simp [h4']
    · have h4' : ¬ 4 ≤ lead b0 := by omega
      unfold sz
      simp [h3', h4']

set_option maxRecDepth 100000 in
set_option maxHeartbeats 4000000 in
/-- Go's own decoder reports as many. -/
theorem decode_sz (n b0 b1 b2 b3 : Nat) (hn : 1 ≤ n) (h0 : b0 < 256) (h1 : b1 < 256) (h2 : b2 < 256) (h3 : b3 < 256) : (Lib.decodeN n b0 b1 b2 b3).2 = sz n b0 b1 b2 b3 := by
  by_cases c0 : b0 < 194
  · rw [sz_low c0]
    unfold Lib.decodeN
    repeat' split
    all_goals first | rfl | (exfalso; omega)
  by_cases c1 : b0 < 224
  · rw [← Lib.slow_C2 n b0 b1 b2 b3 hn h1 h2 h3 (by omega)]
    have l : lead b0 = 2 := by unfold lead; rw [if_pos (by omega)]
    have lo : low b0 = 128 := by unfold low; rw [if_neg (by omega), if_neg (by omega)]
    have hi : high b0 = 191 := by unfold high; rw [if_neg (by omega), if_neg (by omega)]
    unfold Lib.slowN sz
    rw [l, lo, hi]
    repeat' split
    all_goals first | rfl | (exfalso; omega)
  by_cases c2 : b0 < 240
  · have l : lead b0 = 3 := by unfold lead; rw [if_neg (by omega), if_pos (by omega)]
    by_cases e0 : b0 = 224
    · rw [← Lib.slow_E0 n b0 b1 b2 b3 hn h1 h2 h3 e0]
      have lo : low b0 = 160 := by unfold low; rw [if_pos (by omega)]
      have hi : high b0 = 191 := by unfold high; rw [if_neg (by omega), if_neg (by omega)]
      unfold Lib.slowN sz
      rw [l, lo, hi]
      repeat' split
      all_goals first | rfl | (exfalso; omega)
    by_cases ed : b0 = 237
    · rw [← Lib.slow_ED n b0 b1 b2 b3 hn h1 h2 h3 ed]
      have lo : low b0 = 128 := by unfold low; rw [if_neg (by omega), if_neg (by omega)]
      have hi : high b0 = 159 := by unfold high; rw [if_pos (by omega)]
      unfold Lib.slowN sz
      rw [l, lo, hi]
      repeat' split
      all_goals first | rfl | (exfalso; omega)
    rw [← Lib.slow_E1 n b0 b1 b2 b3 hn h1 h2 h3 (by omega)]
    have lo : low b0 = 128 := by unfold low; rw [if_neg (by omega), if_neg (by omega)]
    have hi : high b0 = 191 := by unfold high; rw [if_neg (by omega), if_neg (by omega)]
    unfold Lib.slowN sz
    rw [l, lo, hi]
    repeat' split
    all_goals first | rfl | (exfalso; omega)
  by_cases c3 : b0 < 245
  · have l : lead b0 = 4 := by unfold lead; rw [if_neg (by omega), if_neg (by omega), if_pos (by omega)]
    by_cases e0 : b0 = 240
    · rw [← Lib.slow_F0 n b0 b1 b2 b3 hn h1 h2 h3 e0]
      have lo : low b0 = 144 := by unfold low; rw [if_neg (by omega), if_pos (by omega)]
      have hi : high b0 = 191 := by unfold high; rw [if_neg (by omega), if_neg (by omega)]
      unfold Lib.slowN sz
      rw [l, lo, hi]
      repeat' split
      all_goals first | rfl | (exfalso; omega)
    by_cases ed : b0 = 244
    · rw [← Lib.slow_F4 n b0 b1 b2 b3 hn h1 h2 h3 ed]
      have lo : low b0 = 128 := by unfold low; rw [if_neg (by omega), if_neg (by omega)]
      have hi : high b0 = 143 := by unfold high; rw [if_neg (by omega), if_pos (by omega)]
      unfold Lib.slowN sz
      rw [l, lo, hi]
      repeat' split
      all_goals first | rfl | (exfalso; omega)
    rw [← Lib.slow_F1 n b0 b1 b2 b3 hn h1 h2 h3 (by omega)]
    have lo : low b0 = 128 := by unfold low; rw [if_neg (by omega), if_neg (by omega)]
    have hi : high b0 = 191 := by unfold high; rw [if_neg (by omega), if_neg (by omega)]
    unfold Lib.slowN sz
    rw [l, lo, hi]
    repeat' split
    all_goals first | rfl | (exfalso; omega)
  have l : lead b0 = 1 := by unfold lead; rw [if_neg (by omega), if_neg (by omega), if_neg (by omega)]
  have : sz n b0 b1 b2 b3 = 1 := by unfold sz; rw [if_pos (by omega)]
  rw [this]
  unfold Lib.decodeN
  repeat' split
  all_goals first | rfl | (exfalso; omega)

end Go.Proofs.PlatenGlyph

/- Plain arithmetic: where signs begin in n bytes (byte i is f i), how many there are, the sign that ends at a place. No program is spoken of here. -/
namespace Go.Proofs.PlatenGlyph
set_option linter.unusedVariables false

def szAt (f : Nat → Nat) (n i : Nat) : Nat := if i < n then sz (n - i) (f i) (f (i + 1)) (f (i + 2)) (f (i + 3)) else 0

theorem szAt_in {f : Nat → Nat} {n i : Nat} (h : i < n) : szAt f n i = sz (n - i) (f i) (f (i + 1)) (f (i + 2)) (f (i + 3)) := by
  unfold szAt; rw [if_pos h]
theorem szAt_out {f : Nat → Nat} {n i : Nat} (h : ¬ i < n) : szAt f n i = 0 := by
  unfold szAt; rw [if_neg h]
theorem szAt_pos {f : Nat → Nat} {n i : Nat} (h : i < n) : 1 ≤ szAt f n i := by
  rw [szAt_in h]; exact (sz_pos _ _ _ _ _).1
theorem szAt_le4 (f : Nat → Nat) (n i : Nat) : szAt f n i ≤ 4 := by
  unfold szAt; split
  · exact (sz_pos _ _ _ _ _).2
  · omega
theorem szAt_le (f : Nat → Nat) (n i : Nat) (hi : i ≤ n) : i + szAt f n i ≤ n := by
  unfold szAt; split
  · have := sz_le (n - i) (f i) (f (i + 1)) (f (i + 2)) (f (i + 3)) (by omega); omega
  · omega

/-- The bytes of a sign behind its first one go on with it. -/
theorem szAt_inner {f : Nat → Nat} {n i j : Nat} (h1 : i < j) (h2 : j < i + szAt f n i) : 128 ≤ f j ∧ f j ≤ 191 := by
  have hi : i < n := by
    by_cases h : i < n
    · exact h
    · rw [szAt_out h] at h2; omega
  rw [szAt_in hi] at h2
  have hne : sz (n - i) (f i) (f (i + 1)) (f (i + 2)) (f (i + 3)) ≠ 1 := by omega
  obtain ⟨e, a, b, c, d, g⟩ := sz_many hne
  have hc := lead_cases (f i)
  have hl := low_ge (f i)
  have hh := high_le (f i)
  have : j = i + 1 ∨ j = i + 2 ∨ j = i + 3 := by omega
  rcases this with rfl | rfl | rfl
  · omega
  · exact d (by omega)
  · exact g (by omega)

/-- A sign of several bytes begins with none of those. -/
theorem szAt_head {f : Nat → Nat} {n i : Nat} (h : 2 ≤ szAt f n i) : 194 ≤ f i := by
  have hi : i < n := by
    by_cases h' : i < n
    · exact h'
    · rw [szAt_out h'] at h; omega
  rw [szAt_in hi] at h
  have hne : sz (n - i) (f i) (f (i + 1)) (f (i + 2)) (f (i + 3)) ≠ 1 := by omega
  exact (lead_ge (sz_many hne).2.1).1

theorem szAt_less {f : Nat → Nat} {n m i : Nat} (hm : m ≤ n) (h : i < m) (hs : i + szAt f n i ≤ m) : szAt f m i = szAt f n i := by
  rw [szAt_in (show i < n by omega)] at hs ⊢
  rw [szAt_in h]
  exact sz_less (c1 := 0) (c2 := 0) (c3 := 0) (by omega) (by omega)

theorem szAt_more {f : Nat → Nat} {n m i : Nat} (hm : m ≤ n) (h : i < m) (hs : 2 ≤ szAt f m i) : szAt f n i = szAt f m i := by
  rw [szAt_in h] at hs ⊢
  rw [szAt_in (show i < n by omega)]
  have hne : sz (m - i) (f i) (f (i + 1)) (f (i + 2)) (f (i + 3)) ≠ 1 := by omega
  obtain ⟨e, a, b, c, d, g⟩ := sz_many hne
  rw [e]
  exact sz_of a (by omega) c d g

theorem szAt_cut {f : Nat → Nat} {n m i : Nat} (h : i < m) (hm : m ≤ n) (hs : m < i + szAt f n i) : szAt f m i = 1 := by
  rw [szAt_in (show i < n by omega)] at hs
  rw [szAt_in h]
  exact sz_cut (n := n - i) (by omega) (by omega)

theorem szAt_cont {f : Nat → Nat} {n i : Nat} (h : i < n) (hc : f i < 194) : szAt f n i = 1 := by
  rw [szAt_in h]; exact sz_low hc

theorem szAt_shift (f : Nat → Nat) (n k i : Nat) (hk : k ≤ n) : szAt (fun j => f (k + j)) (n - k) i = szAt f n (k + i) := by
  unfold szAt
  have e : (n - k - i) = n - (k + i) := by omega
  by_cases h : i < n - k
  · rw [if_pos h, if_pos (by omega), e]
    simp only [Nat.add_assoc]
  · rw [if_neg h, if_neg (by omega)]

theorem szAt_congr {f g : Nat → Nat} {n i : Nat} (h : ∀ j, j < n → f j = g j) : szAt f n i = szAt g n i := by
  unfold szAt
  split
  · rw [h i (by omega)]
    exact sz_congr (fun _ => h _ (by omega)) (fun _ => h _ (by omega)) (fun _ => h _ (by omega))
  · rfl

/-- Where the k-th sign begins; the end, if there are no more. -/
def nth (f : Nat → Nat) (n : Nat) : Nat → Nat
  | 0 => 0
  | k + 1 => nth f n k + szAt f n (nth f n k)

theorem nth_le (f : Nat → Nat) (n : Nat) : ∀ k, nth f n k ≤ n
  | 0 => Nat.zero_le _
  | k + 1 => szAt_le f n _ (nth_le f n k)

theorem nth_lt {f : Nat → Nat} {n k : Nat} (h : nth f n k < n) : nth f n k < nth f n (k + 1) := by
  have := szAt_pos (f := f) h
  show _ < nth f n k + szAt f n (nth f n k)
  omega

theorem nth_end {f : Nat → Nat} {n k : Nat} (h : nth f n k = n) : nth f n (k + 1) = n := by
  show nth f n k + szAt f n (nth f n k) = n
  rw [szAt_out (by omega)]; omega

theorem nth_succ_le (f : Nat → Nat) (n k : Nat) : nth f n k ≤ nth f n (k + 1) := Nat.le_add_right _ _

theorem nth_mono (f : Nat → Nat) (n : Nat) {j k : Nat} (h : j ≤ k) : nth f n j ≤ nth f n k := by
  induction k with
  | zero => have : j = 0 := by omega
            subst this; exact Nat.le_refl _
  | succ k ih =>
    by_cases e : j = k + 1
    · subst e; exact Nat.le_refl _
    · exact Nat.le_trans (ih (by omega)) (nth_succ_le f n k)

theorem nth_strict {f : Nat → Nat} {n j k : Nat} (h : j < k) (hn : nth f n j < n) : nth f n j < nth f n k :=
  Nat.lt_of_lt_of_le (nth_lt hn) (nth_mono f n h)

theorem nth_ge {f : Nat → Nat} {n : Nat} : ∀ {k}, nth f n k < n → k ≤ nth f n k
  | 0, _ => Nat.zero_le _
  | k + 1, h => by
    have hk : nth f n k < n := by have := nth_succ_le f n k; omega
    have := nth_ge hk
    have := nth_lt hk
    omega

theorem nth_all (f : Nat → Nat) (n : Nat) : nth f n n = n := by
  by_cases h : nth f n n < n
  · have := nth_ge h; omega
  · have := nth_le f n n; omega

/-- Each byte is in one sign. -/
theorem nth_cover (f : Nat → Nat) (n i : Nat) (hi : i < n) : ∃ k, nth f n k ≤ i ∧ i < nth f n (k + 1) := by
  have : ∀ m, i < nth f n m → ∃ k, nth f n k ≤ i ∧ i < nth f n (k + 1) := by
    intro m
    induction m with
    | zero => intro h; exact absurd h (Nat.not_lt_zero _)
    | succ m ih =>
      intro h
      by_cases h' : i < nth f n m
      · exact ih h'
      · exact ⟨m, by omega, h⟩
  exact this n (by rw [nth_all]; exact hi)

theorem nth_inner {f : Nat → Nat} {n k i : Nat} (h1 : nth f n k < i) (h2 : i < nth f n (k + 1)) : 128 ≤ f i ∧ f i ≤ 191 :=
  szAt_inner h1 h2

/-- A byte that goes on with nothing begins a sign. -/
theorem nth_start {f : Nat → Nat} {n i : Nat} (hi : i < n) (h : ¬ (128 ≤ f i ∧ f i ≤ 191)) : ∃ k, nth f n k = i := by
  obtain ⟨k, h1, h2⟩ := nth_cover f n i hi
  by_cases e : nth f n k = i
  · exact ⟨k, e⟩
  · exact absurd (nth_inner (by omega) h2) h

/-- Between two signs' beginnings there is none. -/
theorem nth_gap {f : Nat → Nat} {n j k : Nat} (h1 : nth f n k < nth f n j) : nth f n (k + 1) ≤ nth f n j := by
  by_cases h : k < j
  · exact nth_mono f n h
  · have := nth_mono f n (show j ≤ k by omega); omega

/-- How many signs there are. -/
def cntFrom (f : Nat → Nat) (n : Nat) : Nat → Nat → Nat
  | 0, _ => 0
  | b + 1, i => if i < n then 1 + cntFrom f n b (i + szAt f n i) else 0
def cnt (f : Nat → Nat) (n : Nat) : Nat := cntFrom f n n 0

theorem cntFrom_nth (f : Nat → Nat) (n : Nat) : ∀ b k, n ≤ nth f n k + b → nth f n (k + cntFrom f n b (nth f n k)) = n ∧ ∀ j, j < k + cntFrom f n b (nth f n k) → k ≤ j → nth f n j < n
  | 0, k, h => by
    have := nth_le f n k
    refine ⟨by simp only [cntFrom, Nat.add_zero]; omega, fun j h1 h2 => ?_⟩
    simp only [cntFrom] at h1; omega
  | b + 1, k, h => by
    by_cases hk : nth f n k < n
    · have hp := szAt_pos (f := f) hk
      have ih := cntFrom_nth f n b (k + 1) (by show n ≤ nth f n k + szAt f n (nth f n k) + b; omega)
      have e : cntFrom f n (b + 1) (nth f n k) = 1 + cntFrom f n b (nth f n (k + 1)) := by
        simp only [cntFrom, if_pos hk]; rfl
      rw [e, ← Nat.add_assoc]
      refine ⟨ih.1, fun j h1 h2 => ?_⟩
      by_cases ej : j = k
      · subst ej; exact hk
      · exact ih.2 j h1 (by omega)
    · have e : cntFrom f n (b + 1) (nth f n k) = 0 := by simp only [cntFrom, if_neg hk]
      rw [e]
      have := nth_le f n k
      exact ⟨by rw [Nat.add_zero]; omega, fun j h1 h2 => by omega⟩

theorem cnt_end (f : Nat → Nat) (n : Nat) : nth f n (cnt f n) = n := by
  have := (cntFrom_nth f n n 0 (by omega)).1
  rwa [Nat.zero_add] at this
theorem cnt_lt {f : Nat → Nat} {n j : Nat} (h : j < cnt f n) : nth f n j < n := by
  have := (cntFrom_nth f n n 0 (by omega)).2 j (by rw [Nat.zero_add]; exact h) (Nat.zero_le _)
  exact this
theorem cnt_iff (f : Nat → Nat) (n j : Nat) : nth f n j < n ↔ j < cnt f n := by
  refine ⟨fun h => ?_, cnt_lt⟩
  by_cases h' : j < cnt f n
  · exact h'
  · have := nth_mono f n (show cnt f n ≤ j by omega)
    rw [cnt_end] at this; omega
/-- It is told by where it ends. -/
theorem cnt_eq {f : Nat → Nat} {n c : Nat} (h : nth f n c = n) (h' : ∀ j, j < c → nth f n j < n) : cnt f n = c := by
  by_cases h1 : cnt f n < c
  · have := h' _ h1; rw [cnt_end] at this; omega
  · by_cases h2 : c < cnt f n
    · have := cnt_lt h2; omega
    · omega
theorem cnt_le (f : Nat → Nat) (n : Nat) : cnt f n ≤ n := by
  by_cases h : cnt f n ≤ n
  · exact h
  · have := cnt_lt (f := f) (n := n) (j := n) (by omega)
    rw [nth_all] at this; omega

/-- How many bytes the sign has that ends at e, of the bytes ahead of e. -/
def lastAt (f : Nat → Nat) (e : Nat) : Nat :=
  if e = 0 then 0 else if 2 ≤ e ∧ szAt f e (e - 2) = 2 then 2 else if 3 ≤ e ∧ szAt f e (e - 3) = 3 then 3 else if 4 ≤ e ∧ szAt f e (e - 4) = 4 then 4 else 1

/-- Back from where a sign ends one comes to where it begins. -/
theorem last_back {f : Nat → Nat} {n k : Nat} (h : nth f n k < n) : lastAt f (nth f n (k + 1)) = szAt f n (nth f n k) := by
  obtain ⟨e, he⟩ : ∃ e, nth f n (k + 1) = e := ⟨_, rfl⟩
  have hen : e ≤ n := by rw [← he]; exact nth_le _ _ _
  have hes : nth f n k + szAt f n (nth f n k) = e := he
  have hp := szAt_pos (f := f) h
  have h4 := szAt_le4 f n (nth f n k)
  -- a sign of m bytes that ends at e is the one that begins there
  have key : ∀ m, 2 ≤ m → m ≤ e → szAt f e (e - m) = m → szAt f n (nth f n k) = m := by
    intro m hm hme hs
    have hh : 194 ≤ f (e - m) := szAt_head (n := e) (by omega)
    obtain ⟨j, hj⟩ := nth_start (f := f) (n := n) (i := e - m) (by omega) (by omega)
    have hs' := szAt_more (f := f) (n := n) hen (show e - m < e by omega) (by omega)
    have hn : nth f n (j + 1) = e := by
      show nth f n j + szAt f n (nth f n j) = e
      rw [hj, hs', hs]; omega
    have e1 : nth f n j ≤ nth f n k := by
      by_cases c : nth f n j ≤ nth f n k
      · exact c
      · have := nth_gap (f := f) (n := n) (j := j) (k := k) (by omega); omega
    have e2 : nth f n k ≤ nth f n j := by
      by_cases c : nth f n k ≤ nth f n j
      · exact c
      · have := nth_gap (f := f) (n := n) (j := k) (k := j) (by omega); omega
    have : nth f n k = e - m := by omega
    omega
  rw [he]
  unfold lastAt
  rw [if_neg (by omega)]
  by_cases c2 : 2 ≤ e ∧ szAt f e (e - 2) = 2
  · rw [if_pos c2, key 2 (by omega) c2.1 c2.2]
  rw [if_neg c2]
  by_cases c3 : 3 ≤ e ∧ szAt f e (e - 3) = 3
  · rw [if_pos c3, key 3 (by omega) c3.1 c3.2]
  rw [if_neg c3]
  by_cases c4 : 4 ≤ e ∧ szAt f e (e - 4) = 4
  · rw [if_pos c4, key 4 (by omega) c4.1 c4.2]
  rw [if_neg c4]
  have hl := szAt_less (f := f) (n := n) (m := e) (i := nth f n k) hen (by omega) (by omega)
  have hx : e - szAt f n (nth f n k) = nth f n k := by omega
  have : szAt f n (nth f n k) = 1 ∨ szAt f n (nth f n k) = 2 ∨ szAt f n (nth f n k) = 3 ∨ szAt f n (nth f n k) = 4 := by omega
  rcases this with g | g | g | g
  · exact g.symm
  · rw [g] at hx hl; rw [hx] at c2; exact absurd ⟨by omega, hl⟩ c2
  · rw [g] at hx hl; rw [hx] at c3; exact absurd ⟨by omega, hl⟩ c3
  · rw [g] at hx hl; rw [hx] at c4; exact absurd ⟨by omega, hl⟩ c4

end Go.Proofs.PlatenGlyph

/- Sizes as the document counts them: where groups end, the next break, sums between places. -/
namespace Go.Proofs.PlatenLayout
set_option linter.unusedVariables false

theorem grp_brk : ∀ (l : List It) (d : Nat), grp l d = brk l (d + 1)
  | [], d => rfl
  | x :: r, d => by
    have h1 := grp_brk r (d + 1)
    have h3 := grp_brk r d
    show (if x.kind = 3 then grp r (d + 1) else if x.kind = 4 then (if d = 0 then brk r 0 else grp r (d - 1)) else x.own + grp r d) = (if x.kind = 3 then brk r (d + 1 + 1) else if x.kind = 4 then brk r (d + 1 - 1) else if x.kind = 2 ∧ d + 1 = 0 then 0 else x.own + brk r (d + 1))
    by_cases k3 : x.kind = 3
    · rw [if_pos k3, if_pos k3, h1]
    · rw [if_neg k3, if_neg k3]
      by_cases k4 : x.kind = 4
      · rw [if_pos k4, if_pos k4]
        cases d with
        | zero => rfl
        | succ d => rw [if_neg (by omega), Nat.add_sub_cancel, Nat.add_sub_cancel, grp_brk r d]
      · rw [if_neg k4, if_neg k4, if_neg (by omega), h3]
/-- Where the group ends of which d more are open. -/
def mend : List It → Nat → Option Nat
  | [], _ => none
  | x :: r, d =>
    if x.kind = 3 then (mend r (d + 1)).map (· + 1)
    else if x.kind = 4 then (if d = 0 then some 0 else (mend r (d - 1)).map (· + 1))
    else (mend r d).map (· + 1)
theorem brk_mend : ∀ (r : List It) (d : Nat), (∀ e, mend r d = some e → e < r.length ∧ brk r (d + 1) = sum (r.take e) + brk (r.drop (e + 1)) 0) ∧ (mend r d = none → brk r (d + 1) = sum r)
  | [], d => ⟨fun e h => (by cases h), fun _ => rfl⟩
  | x :: r, d => by
    have step : ∀ d', mend (x :: r) d = (mend r d').map (· + 1) → brk (x :: r) (d + 1) = x.own + brk r (d' + 1) → (∀ e, mend (x :: r) d = some e → e < (x :: r).length ∧ brk (x :: r) (d + 1) = sum ((x :: r).take e) + brk ((x :: r).drop (e + 1)) 0) ∧ (mend (x :: r) d = none → brk (x :: r) (d + 1) = sum (x :: r)) := by
      intro d' h1 h2
      obtain ⟨a, b⟩ := brk_mend r d'
      rw [h1, h2]
      refine ⟨fun e he => ?_, fun he => ?_⟩
      · cases hm : mend r d' with
        | none => rw [hm] at he; cases he
        | some e' =>
          rw [hm] at he
          injection he with he
          obtain rfl : e = e' + 1 := he.symm
          obtain ⟨c1, c2⟩ := a e' hm
          refine ⟨by simp; omega, ?_⟩
          rw [c2, List.take_succ_cons, List.drop_succ_cons]
          show _ = x.own + sum (r.take e') + _
          omega
      · cases hm : mend r d' with
        | none => rw [b hm]; rfl
        | some e' => rw [hm] at he; cases he
    by_cases k3 : x.kind = 3
    · refine step (d + 1) (by rw [mend, if_pos k3]) ?_
      rw [brk, if_pos k3]
      simp [It.own, k3]
    · by_cases k4 : x.kind = 4
      · cases d with
        | zero =>
          have e1 : mend (x :: r) 0 = some 0 := by rw [mend, if_neg k3, if_pos k4, if_pos rfl]
          have e2 : brk (x :: r) (0 + 1) = brk r 0 := by rw [brk, if_neg k3, if_pos k4]
          rw [e1, e2]
          refine ⟨fun e he => ?_, fun he => by cases he⟩
          injection he with he
          subst he
          exact ⟨by simp, by simp [sum]⟩
        | succ d =>
          refine step d (by rw [mend, if_neg k3, if_pos k4, if_neg (by omega), Nat.add_sub_cancel]) ?_
          rw [brk, if_neg k3, if_pos k4, Nat.add_sub_cancel]
          simp [It.own, k4]
      · refine step d (by rw [mend, if_neg k3, if_neg k4]) ?_
        rw [brk, if_neg k3, if_neg k4, if_neg (by omega)]

def kd (l : List It) (j : Nat) : Nat := match l[j]? with | some x => x.kind | none => 0
theorem kd_get {l : List It} {j : Nat} (h : j < l.length) : kd l j = l[j].kind := by unfold kd; rw [List.getElem?_eq_getElem h]
theorem mend_drop {l : List It} {i : Nat} (h : i < l.length) (t : Nat) : mend (l.drop i) t = if kd l i = 3 then (mend (l.drop (i + 1)) (t + 1)).map (· + 1) else if kd l i = 4 then (if t = 0 then some 0 else (mend (l.drop (i + 1)) (t - 1)).map (· + 1)) else (mend (l.drop (i + 1)) t).map (· + 1) := by
  rw [List.drop_eq_getElem_cons h, kd_get h]
  rfl
/-- Where the group that begins at j ends; the end of all, if it doesn't. -/
def endI (l : List It) (j : Nat) : Nat := match mend (l.drop (j + 1)) 0 with | some e => j + 1 + e | none => l.length
/-- The ends that are known ahead of item i, and what is open, the innermost last. -/
structure EI (l : List It) (i : Nat) (out : List Int) (os : List Nat) : Prop where
  le : i ≤ l.length
  len : out.length = i
  non : ∀ j, j < i → kd l j ≠ 3 → out[j]? = some (-1)
  opn : ∀ t j, os.reverse[t]? = some j → j < i ∧ kd l j = 3 ∧ out[j]? = some (l.length : Int) ∧ mend (l.drop (j + 1)) 0 = (mend (l.drop i) t).map fun e => e + (i - (j + 1))
  cls : ∀ j, j < i → kd l j = 3 → j ∉ os → ∃ e, mend (l.drop (j + 1)) 0 = some e ∧ out[j]? = some ((j + 1 + e : Nat) : Int)
  nd : os.Nodup
theorem ei_nil (l : List It) : EI l 0 [] [] := ⟨Nat.zero_le _, rfl, fun j h => absurd h (Nat.not_lt_zero _), fun t j h => by simp at h, fun j h => absurd h (Nat.not_lt_zero _), List.nodup_nil⟩
theorem get_snoc {out : List Int} {i j : Nat} {v w : Int} (hl : out.length = i) (h : out[j]? = some v) : (out ++ [w])[j]? = some v := by
  have : j < out.length := (List.getElem?_eq_some_iff.1 h).1
  rw [List.getElem?_append_left this]; exact h
theorem get_last {out : List Int} {i : Nat} {w : Int} (hl : out.length = i) : (out ++ [w])[i]? = some w := by
  subst hl
  rw [List.getElem?_append_right (Nat.le_refl _), Nat.sub_self]
  rfl
theorem map_map' {o : Option Nat} {a b : Nat} (c : Nat) (h : b + a = c) : (o.map (· + a)).map (fun e => e + b) = o.map fun e => e + c := by
  cases o with
  | none => rfl
  | some e => simp only [Option.map_some]; congr 1; omega
theorem ei_begin {l : List It} {i : Nat} {out : List Int} {os : List Nat} (E : EI l i out os) (h : i < l.length) (k : kd l i = 3) : EI l (i + 1) (out ++ [(l.length : Int)]) (os ++ [i]) := by
  have hno : i ∉ os := fun hm => by
    obtain ⟨t, ht⟩ := List.getElem?_of_mem (List.mem_reverse.2 hm)
    exact absurd (E.opn t i ht).1 (Nat.lt_irrefl _)
  refine ⟨h, by simp [E.len], fun j hj hk => ?_, fun t j ht => ?_, fun j hj hk hm => ?_, ?_⟩
  · have : j < i := by
      rcases Nat.lt_or_ge j i with q | q
      · exact q
      · obtain rfl : j = i := by omega
        exact absurd k hk
    exact get_snoc E.len (E.non j this hk)
  · rw [List.reverse_append] at ht
    cases t with
    | zero =>
      injection ht with ht
      subst ht
      refine ⟨Nat.lt_succ_self _, k, get_last E.len, ?_⟩
      rw [Nat.sub_self]
      cases mend (l.drop (i + 1)) 0 <;> rfl
    | succ t =>
      obtain ⟨a, b, c, d⟩ := E.opn t j ht
      refine ⟨by omega, b, get_snoc E.len c, ?_⟩
      rw [d, mend_drop h, if_pos k]
      exact map_map' _ (by omega)
  · have hj' : j ≠ i := fun e => hm (by simp [e])
    obtain ⟨e, h1, h2⟩ := E.cls j (by omega) hk (fun q => hm (by simp [q]))
    exact ⟨e, h1, get_snoc E.len h2⟩
  · rw [List.nodup_append]
    refine ⟨E.nd, by simp, fun a ha b hb e => ?_⟩
    simp at hb
    subst hb e
    exact hno ha
theorem ei_end {l : List It} {i j0 : Nat} {out : List Int} {os : List Nat} (E : EI l i out (os ++ [j0])) (h : i < l.length) (k : kd l i = 4) : EI l (i + 1) ((out ++ [-1]).set j0 (i : Int)) os := by
  have hnd := E.nd
  rw [List.nodup_append] at hnd
  have hj0 := E.opn 0 j0 (by simp)
  obtain ⟨a0, b0, c0, d0⟩ := hj0
  have hset : ∀ j v, j ≠ j0 → (out ++ [-1])[j]? = some v → ((out ++ [-1]).set j0 (i : Int))[j]? = some v := fun j v hj hv => by
    rw [List.getElem?_set_ne (fun e => hj e.symm)]; exact hv
  refine ⟨h, by simp [E.len], fun j hj hk => ?_, fun t j ht => ?_, fun j hj hk hm => ?_, hnd.1⟩
  · refine hset _ _ (fun e => hk (e ▸ b0)) ?_
    rcases Nat.lt_or_ge j i with q | q
    · exact get_snoc E.len (E.non j q hk)
    · obtain rfl : j = i := by omega
      exact get_last E.len
  · have ht' : (os ++ [j0]).reverse[t + 1]? = some j := by rw [List.reverse_append]; exact ht
    obtain ⟨a, b, c, d⟩ := E.opn (t + 1) j ht'
    have hmem : j ∈ os := List.mem_reverse.1 (List.mem_of_getElem? ht)
    refine ⟨by omega, b, hset _ _ (fun e => hnd.2.2 j hmem j0 (by simp) e) (get_snoc E.len c), ?_⟩
    rw [d, mend_drop h, if_neg (by omega), if_pos k, if_neg (by omega), Nat.add_sub_cancel]
    exact map_map' _ (by omega)
  · by_cases e : j = j0
    · subst e
      rw [mend_drop h, if_neg (by omega), if_pos k, if_pos rfl] at d0
      refine ⟨_, d0, ?_⟩
      rw [List.getElem?_set_self (by simp [E.len]; omega)]
      show some (i : Int) = some ((j + 1 + (0 + (i - (j + 1))) : Nat) : Int)
      rw [show j + 1 + (0 + (i - (j + 1))) = i by omega]
    · have hne : j ≠ i := fun q => by rw [q] at hk; omega
      obtain ⟨e', h1, h2⟩ := E.cls j (by omega) hk (fun q => by
        rcases List.mem_append.1 q with q | q
        · exact hm q
        · simp at q; exact e q)
      exact ⟨e', h1, hset _ _ e (get_snoc E.len h2)⟩
theorem ei_none {l : List It} {i : Nat} {out : List Int} (E : EI l i out []) (h : i < l.length) (k : kd l i = 4) : EI l (i + 1) (out ++ [-1]) [] := by
  refine ⟨h, by simp [E.len], fun j hj hk => ?_, fun t j ht => by simp at ht, fun j hj hk hm => ?_, List.nodup_nil⟩
  · rcases Nat.lt_or_ge j i with q | q
    · exact get_snoc E.len (E.non j q hk)
    · obtain rfl : j = i := by omega
      exact get_last E.len
  · have hne : j ≠ i := fun q => by rw [q] at hk; omega
    obtain ⟨e', h1, h2⟩ := E.cls j (by omega) hk hm
    exact ⟨e', h1, get_snoc E.len h2⟩
theorem ei_other {l : List It} {i : Nat} {out : List Int} {os : List Nat} (E : EI l i out os) (h : i < l.length) (k3 : kd l i ≠ 3) (k4 : kd l i ≠ 4) : EI l (i + 1) (out ++ [-1]) os := by
  refine ⟨h, by simp [E.len], fun j hj hk => ?_, fun t j ht => ?_, fun j hj hk hm => ?_, E.nd⟩
  · rcases Nat.lt_or_ge j i with q | q
    · exact get_snoc E.len (E.non j q hk)
    · obtain rfl : j = i := by omega
      exact get_last E.len
  · obtain ⟨a, b, c, d⟩ := E.opn t j ht
    refine ⟨by omega, b, get_snoc E.len c, ?_⟩
    rw [d, mend_drop h, if_neg k3, if_neg k4]
    exact map_map' _ (by omega)
  · have hne : j ≠ i := fun q => by rw [q] at hk; exact k3 hk
    obtain ⟨e', h1, h2⟩ := E.cls j (by omega) hk hm
    exact ⟨e', h1, get_snoc E.len h2⟩
/-- All ends. -/
theorem ei_all {l : List It} {out : List Int} {os : List Nat} (E : EI l l.length out os) (j : Nat) (hj : j < l.length) : out[j]? = some (if kd l j = 3 then ((endI l j : Nat) : Int) else -1) := by
  by_cases k : kd l j = 3
  · rw [if_pos k]
    unfold endI
    by_cases hm : j ∈ os
    · obtain ⟨t, ht⟩ := List.getElem?_of_mem (List.mem_reverse.2 hm)
      obtain ⟨a, b, c, d⟩ := E.opn t j ht
      rw [List.drop_length] at d
      have d' : mend (l.drop (j + 1)) 0 = none := d
      rw [d']
      exact c
    · obtain ⟨e, h1, h2⟩ := E.cls j hj k hm
      rw [h1]
      exact h2
  · rw [if_neg k]; exact E.non j hj k

/-! Sums between places, and the next break. -/
theorem sum_app (a b : List It) : sum (a ++ b) = sum a + sum b := by
  induction a with
  | nil => simp [sum]
  | cons x r ih => show x.own + sum (r ++ b) = x.own + sum r + sum b; omega
def pre (l : List It) (b : Nat) : Nat := sum (l.take b)
theorem pre_succ {l : List It} {b : Nat} (h : b < l.length) : pre l (b + 1) = pre l b + l[b].own := by
  unfold pre
  rw [List.take_add_one, List.getElem?_eq_getElem h, sum_app]
  rfl
theorem pre_all (l : List It) : pre l l.length = sum l := by unfold pre; rw [List.take_length]
theorem pre_add (l : List It) (a e : Nat) : pre l (a + e) = pre l a + sum ((l.drop a).take e) := by
  unfold pre
  rw [List.take_add, sum_app]
/-- The loop for the next break stands at i; C is the sum ahead of that break. -/
def Nx (l : List It) (C i : Nat) : Prop := (i ≤ l.length ∧ C = pre l i + brk (l.drop i) 0) ∨ (i = l.length + 1 ∧ C = pre l l.length)
theorem nx_start {l : List It} {i : Nat} (h : i ≤ l.length) : Nx l (pre l i + brk (l.drop i) 0) i := Or.inl ⟨h, rfl⟩
theorem nx_end {l : List It} {C i : Nat} (h : Nx l C i) (hi : l.length ≤ i) : C = pre l l.length := by
  rcases h with ⟨a, b⟩ | ⟨a, b⟩
  · obtain rfl : i = l.length := by omega
    rw [b, List.drop_length]
    rfl
  · exact b
theorem nx_break {l : List It} {C i : Nat} (h : Nx l C i) (hi : i < l.length) (k : kd l i = 2) : C = pre l i := by
  rcases h with ⟨a, b⟩ | ⟨a, b⟩
  · rw [kd_get hi] at k
    rw [b, List.drop_eq_getElem_cons hi, brk, if_neg (by omega), if_neg (by omega), if_pos ⟨k, rfl⟩]
    rfl
  · omega
theorem mend_kind : ∀ (r : List It) (d e : Nat), mend r d = some e → ∃ x, r[e]? = some x ∧ x.kind = 4
  | [], d, e, h => by cases h
  | x :: r, d, e, h => by
    have go : ∀ d', (mend r d').map (· + 1) = some e → ∃ y, (x :: r)[e]? = some y ∧ y.kind = 4 := by
      intro d' h
      cases hm : mend r d' with
      | none => rw [hm] at h; cases h
      | some e' =>
        rw [hm] at h
        injection h with h
        obtain rfl : e = e' + 1 := h.symm
        obtain ⟨y, h1, h2⟩ := mend_kind r d' e' hm
        exact ⟨y, by rw [List.getElem?_cons_succ]; exact h1, h2⟩
    rw [mend] at h
    split at h
    · exact go _ h
    · split at h
      · rename_i k4
        split at h
        · injection h with h
          subst h
          exact ⟨x, rfl, k4⟩
        · exact go _ h
      · exact go _ h
theorem nx_begin {l : List It} {C i : Nat} (h : Nx l C i) (hi : i < l.length) (k : kd l i = 3) : Nx l C (endI l i + 1) := by
  rcases h with ⟨a, b⟩ | ⟨a, b⟩
  · rw [kd_get hi] at k
    have ho : l[i].own = 0 := by simp [It.own, k]
    rw [List.drop_eq_getElem_cons hi, brk, if_pos k] at b
    obtain ⟨m1, m2⟩ := brk_mend (l.drop (i + 1)) 0
    unfold endI
    cases hm : mend (l.drop (i + 1)) 0 with
    | none =>
      refine Or.inr ⟨rfl, ?_⟩
      rw [b, m2 hm, pre_all, ← pre_all l]
      have := pre_add l (i + 1) (l.length - (i + 1))
      rw [show i + 1 + (l.length - (i + 1)) = l.length by omega, List.take_of_length_le (by simp), pre_succ hi, ho] at this
      omega
    | some e =>
      obtain ⟨c1, c2⟩ := m1 e hm
      rw [List.length_drop] at c1
      have hlt : i + 1 + e < l.length := by omega
      refine Or.inl ⟨by show i + 1 + e + 1 ≤ _; omega, ?_⟩
      show C = pre l (i + 1 + e + 1) + brk (l.drop (i + 1 + e + 1)) 0
      have h4 : l[i + 1 + e].own = 0 := by
        obtain ⟨y, y1, y2⟩ := mend_kind _ 0 e hm
        rw [List.getElem?_drop, List.getElem?_eq_getElem hlt] at y1
        injection y1 with y1
        rw [y1]
        simp [It.own, y2]
      rw [pre_succ hlt, h4, pre_add, pre_succ hi, ho, b, c2, List.drop_drop]
      rw [show i + 1 + (e + 1) = i + 1 + e + 1 by omega]
      omega
  · omega
theorem nx_other {l : List It} {C i : Nat} (h : Nx l C i) (hi : i < l.length) (k3 : kd l i ≠ 3) (k2 : kd l i ≠ 2) : Nx l C (i + 1) := by
  rcases h with ⟨a, b⟩ | ⟨a, b⟩
  · refine Or.inl ⟨hi, ?_⟩
    rw [kd_get hi] at k2 k3
    rw [b, List.drop_eq_getElem_cons hi, brk, if_neg k3, pre_succ hi]
    by_cases k4 : l[i].kind = 4
    · rw [if_pos k4]
      simp [It.own, k4]
    · rw [if_neg k4, if_neg (fun q => k2 q.1)]
      omega
  · omega

/-! The sizes, place by place. -/
theorem size_text {l : List It} {i : Nat} (h : i < l.length) (k : kd l i = 1) : pre l (i + 1) = pre l i + size (l.drop i) := by
  rw [kd_get h] at k
  rw [pre_succ h, List.drop_eq_getElem_cons h]
  simp [size, k]
theorem size_break {l : List It} {i S : Nat} (h : i < l.length) (k : kd l i = 2) (hS : pre l S = pre l (i + 1) + brk (l.drop (i + 1)) 0) : pre l S = pre l i + size (l.drop i) := by
  rw [kd_get h] at k
  rw [hS, pre_succ h, List.drop_eq_getElem_cons h]
  simp [size, k]
  omega
theorem size_none {l : List It} {i : Nat} (h : i < l.length) (k1 : kd l i ≠ 1) (k2 : kd l i ≠ 2) (k3 : kd l i ≠ 3) : size (l.drop i) = 0 := by
  rw [kd_get h] at k1 k2 k3
  rw [List.drop_eq_getElem_cons h]
  simp [size, k1, k2, k3]
theorem size_open {l : List It} {i : Nat} (h : i < l.length) (k : kd l i = 3) (he : endI l i = l.length) : pre l l.length = pre l i + size (l.drop i) := by
  obtain ⟨m1, m2⟩ := brk_mend (l.drop (i + 1)) 0
  rw [kd_get h] at k
  have ho : l[i].own = 0 := by simp [It.own, k]
  have hz : size (l.drop i) = brk (l.drop (i + 1)) (0 + 1) := by
    rw [List.drop_eq_getElem_cons h, ← grp_brk]
    simp [size, k]
  have hp := pre_add l (i + 1) (l.length - (i + 1))
  rw [show i + 1 + (l.length - (i + 1)) = l.length by omega, List.take_of_length_le (by simp), pre_succ h, ho] at hp
  rw [hz, hp]
  cases hm : mend (l.drop (i + 1)) 0 with
  | none => rw [m2 hm]; omega
  | some e =>
    obtain ⟨c1, _⟩ := m1 e hm
    rw [List.length_drop] at c1
    unfold endI at he
    rw [hm] at he
    have he' : i + 1 + e = l.length := he
    omega
theorem size_group {l : List It} {i S : Nat} (h : i < l.length) (k : kd l i = 3) (he : endI l i < l.length) (hS : pre l S = pre l (endI l i + 1) + brk (l.drop (endI l i + 1)) 0) : pre l S = pre l i + size (l.drop i) := by
  obtain ⟨m1, m2⟩ := brk_mend (l.drop (i + 1)) 0
  rw [kd_get h] at k
  have ho : l[i].own = 0 := by simp [It.own, k]
  have hz : size (l.drop i) = brk (l.drop (i + 1)) (0 + 1) := by
    rw [List.drop_eq_getElem_cons h, ← grp_brk]
    simp [size, k]
  cases hm : mend (l.drop (i + 1)) 0 with
  | none =>
    unfold endI at he
    rw [hm] at he
    exact absurd he (Nat.lt_irrefl _)
  | some e =>
    have he' : endI l i = i + 1 + e := by unfold endI; rw [hm]
    rw [he'] at hS he
    obtain ⟨c1, c2⟩ := m1 e hm
    have h4 : l[i + 1 + e].own = 0 := by
      obtain ⟨y, y1, y2⟩ := mend_kind _ 0 e hm
      rw [List.getElem?_drop, List.getElem?_eq_getElem he] at y1
      injection y1 with y1
      rw [y1]
      simp [It.own, y2]
    rw [hS, hz, c2, pre_succ he, h4, pre_add, pre_succ h, ho, List.drop_drop]
    rw [show i + 1 + (e + 1) = i + 1 + e + 1 by omega]
    omega
theorem endI_le (l : List It) (i : Nat) (h : i < l.length) : endI l i ≤ l.length ∧ i < endI l i := by
  unfold endI
  cases hm : mend (l.drop (i + 1)) 0 with
  | none => exact ⟨Nat.le_refl _, h⟩
  | some e =>
    have := ((brk_mend (l.drop (i + 1)) 0).1 e hm).1
    rw [List.length_drop] at this
    exact ⟨by show i + 1 + e ≤ _; omega, by show i < i + 1 + e; omega⟩
end Go.Proofs.PlatenLayout

/- Sizes as the program reckons them, from the left: what waits till the next break is known. -/
namespace Go.Proofs.PlatenLayout
set_option linter.unusedVariables false

/-- How many open groups began behind what stands at place t of what waits. -/
def dep (O : List (Nat × Nat)) (t : Nat) : Nat := O.countP fun o => decide (t < o.2)
def floorO (O : List (Nat × Nat)) : Nat := (O.getLast?.map Prod.snd).getD 0
theorem floorO_snoc (O : List (Nat × Nat)) (o : Nat × Nat) : floorO (O ++ [o]) = o.2 := by simp [floorO]
theorem dep_snoc (O : List (Nat × Nat)) (o : Nat × Nat) (t : Nat) : dep (O ++ [o]) t = dep O t + if t < o.2 then 1 else 0 := by
  unfold dep
  rw [List.countP_append]
  simp [List.countP_cons]
theorem dep_zero {O : List (Nat × Nat)} {t : Nat} (h : ∀ o ∈ O, o.2 ≤ t) : dep O t = 0 := by
  unfold dep
  rw [List.countP_eq_zero]
  intro o ho
  have := h o ho
  simp; omega
theorem mono_last {O : List (Nat × Nat)} (h : O.Pairwise fun a b => a.2 ≤ b.2) : ∀ o ∈ O, o.2 ≤ floorO O := by
  rcases List.eq_nil_or_concat O with rfl | ⟨O', o', rfl⟩
  · intro o ho; cases ho
  · intro o ho
    rw [List.concat_eq_append] at *
    rw [floorO_snoc]
    rcases List.mem_append.1 ho with q | q
    · exact (List.pairwise_append.1 h).2.2 o q o' (by simp)
    · simp at q; rw [q]; exact Nat.le_refl _
theorem dep_floor {O : List (Nat × Nat)} (h : O.Pairwise fun a b => a.2 ≤ b.2) {t : Nat} (ht : floorO O ≤ t) : dep O t = 0 :=
  dep_zero fun o ho => Nat.le_trans (mono_last h o ho) ht
theorem dep_pos {O : List (Nat × Nat)} {t : Nat} (ht : t < floorO O) : 0 < dep O t := by
  rcases List.eq_nil_or_concat O with rfl | ⟨O', o', rfl⟩
  · simp [floorO] at ht
  · rw [List.concat_eq_append] at *
    rw [floorO_snoc] at ht
    rw [dep_snoc, if_pos ht]; omega

/-- What waits is told what there is up to here. -/
def settle (T : Int) (ps : List Nat) (z : List Int) : List Int := ps.foldl (fun z j => z.set j (z.getD j 0 + T)) z
theorem settle_snoc (T : Int) (ps : List Nat) (j : Nat) (z : List Int) : settle T (ps ++ [j]) z = (settle T ps z).set j ((settle T ps z).getD j 0 + T) := by simp [settle, List.foldl_append]
theorem settle_len (T : Int) : ∀ (ps : List Nat) (z : List Int), (settle T ps z).length = z.length
  | [], z => rfl
  | j :: ps, z => by
    show (settle T ps (z.set j (z.getD j 0 + T))).length = _
    rw [settle_len T ps, List.length_set]
theorem settle_not (T : Int) : ∀ (ps : List Nat) (z : List Int) (j : Nat), j ∉ ps → (settle T ps z)[j]? = z[j]?
  | [], z, j, h => rfl
  | p :: ps, z, j, h => by
    show (settle T ps (z.set p (z.getD p 0 + T)))[j]? = _
    rw [settle_not T ps _ j (fun q => h (by simp [q])), List.getElem?_set_ne (fun q => h (by simp [q]))]
theorem settle_in (T : Int) : ∀ (ps : List Nat) (z : List Int) (j : Nat) (a : Int), ps.Nodup → j ∈ ps → z[j]? = some a → (settle T ps z)[j]? = some (a + T)
  | [], z, j, a, hn, hj, h => by cases hj
  | p :: ps, z, j, a, hn, hj, h => by
    rw [List.nodup_cons] at hn
    show (settle T ps (z.set p (z.getD p 0 + T)))[j]? = _
    have hlt : j < z.length := (List.getElem?_eq_some_iff.1 h).1
    by_cases e : j = p
    · subst e
      rw [settle_not T ps _ j hn.1, List.getElem?_set_self hlt, List.getD_eq_getElem?_getD, h]
      rfl
    · have hj' : j ∈ ps := by
        rcases List.mem_cons.1 hj with q | q
        · exact absurd q e
        · exact q
      exact settle_in T ps _ j a hn.2 hj' (by rw [List.getElem?_set_ne (fun q => e q.symm)]; exact h)

/-- Behind i items: the sizes so far, what waits, and the groups that are open with how much waited when they began. -/
structure Inv (l : List It) (i : Nat) (z : List Int) (P : List Nat) (O : List (Nat × Nat)) : Prop where
  hi : i ≤ l.length
  len : z.length = l.length
  nd : (P ++ O.map Prod.fst).Nodup
  lt : ∀ j ∈ P ++ O.map Prod.fst, j < i
  pend : ∀ t j, P[t]? = some j → z[j]? = some (-((pre l j : Nat) : Int)) ∧ pre l j + size (l.drop j) = pre l i + brk (l.drop i) (dep O t)
  opn : ∀ k o, O[k]? = some o → z[o.1]? = some (-((pre l o.1 : Nat) : Int)) ∧ pre l o.1 + size (l.drop o.1) = pre l i + brk (l.drop i) (O.length - k) ∧ o.2 ≤ P.length
  mono : O.Pairwise fun a b => a.2 ≤ b.2
  done : ∀ j, j < i → j ∉ P ++ O.map Prod.fst → z[j]? = some ((size (l.drop j) : Nat) : Int)
  rest : ∀ j, i ≤ j → j < l.length → z[j]? = some 0
theorem inv_start (l : List It) : Inv l 0 (List.replicate l.length 0) [] [] where
  hi := Nat.zero_le _
  len := by simp
  nd := by simp
  lt := fun j h => by simp at h
  pend := fun t j h => by simp at h
  opn := fun k o h => by simp at h
  mono := List.Pairwise.nil
  done := fun j h => absurd h (Nat.not_lt_zero _)
  rest := fun j _ h => by rw [List.getElem?_replicate, if_pos h]

section
variable {l : List It} {i : Nat} {z : List Int} {P : List Nat} {O : List (Nat × Nat)}
theorem brk_step (h : i < l.length) (d d' : Nat) (hk : (kd l i = 3 ∧ d' = d + 1) ∨ (kd l i = 4 ∧ d' = d - 1) ∨ (kd l i = 2 ∧ 0 < d ∧ d' = d) ∨ (kd l i ≠ 2 ∧ kd l i ≠ 3 ∧ kd l i ≠ 4 ∧ d' = d)) :
    pre l i + brk (l.drop i) d = pre l (i + 1) + brk (l.drop (i + 1)) d' := by
  rw [pre_succ h, List.drop_eq_getElem_cons h, brk]
  rw [kd_get h] at hk
  rcases hk with ⟨k, rfl⟩ | ⟨k, rfl⟩ | ⟨k, h0, rfl⟩ | ⟨k2, k3, k4, rfl⟩
  · rw [if_pos k]; simp [It.own, k]
  · rw [if_neg (by omega), if_pos k]; simp [It.own, k]
  · rw [if_neg (by omega), if_neg (by omega), if_neg (by omega)]; omega
  · rw [if_neg k3, if_neg k4, if_neg (fun q => k2 q.1)]; omega
theorem brk_here (h : i < l.length) (k : kd l i = 2) : pre l i + brk (l.drop i) 0 = pre l i := by
  rw [List.drop_eq_getElem_cons h, brk]
  rw [kd_get h] at k
  rw [if_neg (by omega), if_neg (by omega), if_pos ⟨k, rfl⟩]
  rfl
theorem Inv.notin (I : Inv l i z P O) : i ∉ P ++ O.map Prod.fst := fun q => Nat.lt_irrefl _ (I.lt i q)
/-- A text, or an item of another kind: what is at i is its size. -/
theorem Inv.plain (I : Inv l i z P O) (h : i < l.length) (k2 : kd l i ≠ 2) (k3 : kd l i ≠ 3) (k4 : kd l i ≠ 4) {a : Int} (ha : a = (size (l.drop i) : Nat)) : Inv l (i + 1) (z.set i a) P O where
  hi := h
  len := by rw [List.length_set]; exact I.len
  nd := I.nd
  lt := fun j q => Nat.lt_succ_of_lt (I.lt j q)
  pend := fun t j q => by
    have hne : i ≠ j := fun e => I.notin (by rw [e]; exact List.mem_append_left _ (List.mem_of_getElem? q))
    obtain ⟨a1, a2⟩ := I.pend t j q
    rw [List.getElem?_set_ne hne]
    exact ⟨a1, by rw [a2]; exact brk_step h _ _ (Or.inr (Or.inr (Or.inr ⟨k2, k3, k4, rfl⟩)))⟩
  opn := fun k o q => by
    have hne : i ≠ o.1 := fun e => I.notin (by rw [e]; exact List.mem_append_right _ (List.mem_map_of_mem (List.mem_of_getElem? q)))
    obtain ⟨a1, a2, a3⟩ := I.opn k o q
    rw [List.getElem?_set_ne hne]
    exact ⟨a1, by rw [a2]; exact brk_step h _ _ (Or.inr (Or.inr (Or.inr ⟨k2, k3, k4, rfl⟩))), a3⟩
  mono := I.mono
  done := fun j hj q => by
    by_cases e : i = j
    · subst e; rw [List.getElem?_set_self (by rw [I.len]; exact h), ha]
    · rw [List.getElem?_set_ne e]; exact I.done j (by omega) q
  rest := fun j hj q => by rw [List.getElem?_set_ne (by omega)]; exact I.rest j (by omega) q
theorem set_same {z : List Int} {i : Nat} {a : Int} (h : z[i]? = some a) : z.set i a = z := by
  apply List.ext_getElem?
  intro j
  by_cases e : i = j
  · subst e; rw [List.getElem?_set_self (List.getElem?_eq_some_iff.1 h).1, h]
  · rw [List.getElem?_set_ne e]
theorem Inv.other (I : Inv l i z P O) (h : i < l.length) (k1 : kd l i ≠ 1) (k2 : kd l i ≠ 2) (k3 : kd l i ≠ 3) (k4 : kd l i ≠ 4) : Inv l (i + 1) z P O := by
  have := I.plain h k2 k3 k4 (a := 0) (by rw [size_none h k1 k2 k3]; rfl)
  rwa [set_same (I.rest i (Nat.le_refl _) h)] at this
theorem Inv.text (I : Inv l i z P O) (h : i < l.length) (k1 : kd l i = 1) {c : Nat} (hc : l[i].ch = c) : Inv l (i + 1) (z.set i (c : Nat)) P O ∧ pre l (i + 1) = pre l i + c := by
  have k' := k1
  rw [kd_get h] at k'
  have ho : l[i].own = c := by simp [It.own, k', hc]
  have hp := pre_succ h
  rw [ho] at hp
  have hs := size_text h k1
  exact ⟨I.plain h (by omega) (by omega) (by omega) (by rw [show size (l.drop i) = c by omega]), hp⟩
/-- A break: what waits from the innermost group's beginning on is settled. -/
theorem Inv.breaks (I : Inv l i z P O) (h : i < l.length) (k : kd l i = 2) {f : Nat} (hf : floorO O = f) : Inv l (i + 1) ((settle ((pre l i : Nat) : Int) (P.drop f) z).set i (-((pre l i : Nat) : Int))) (P.take f ++ [i]) O := by
  subst hf
  have nP : P.Nodup := (List.nodup_append.1 I.nd).1
  have hnd : (P.drop (floorO O)).Nodup := nP.sublist (List.drop_sublist _ _)
  have hsplit := List.take_append_drop (floorO O) P
  have disj : ∀ j, j ∈ P.take (floorO O) → j ∉ P.drop (floorO O) := fun j a b => by
    rw [← hsplit] at nP
    exact (List.nodup_append.1 nP).2.2 j a j b rfl
  have hfl : floorO O ≤ P.length := by
    rcases List.eq_nil_or_concat O with rfl | ⟨O', o', rfl⟩
    · exact Nat.zero_le _
    · rw [List.concat_eq_append] at *
      rw [floorO_snoc]
      exact (I.opn O'.length o' (by simp)).2.2
  have hlt : (P.take (floorO O)).length = floorO O := by rw [List.length_take]; omega
  have sub : ∀ j, j ∈ P.take (floorO O) → j ∈ P := fun j q => List.mem_of_mem_take q
  refine ⟨h, by rw [List.length_set, settle_len]; exact I.len, ?_, ?_, ?_, ?_, I.mono, ?_, ?_⟩
  · have h1 : (P.take (floorO O) ++ O.map Prod.fst).Nodup := I.nd.sublist ((List.take_sublist _ _).append (List.Sublist.refl _))
    rw [List.append_assoc]
    rw [List.nodup_append] at h1 ⊢
    refine ⟨h1.1, ?_, ?_⟩
    · show (i :: O.map Prod.fst).Nodup
      rw [List.nodup_cons]
      exact ⟨fun q => I.notin (List.mem_append_right _ q), h1.2.1⟩
    · intro a ha b hb
      rcases List.mem_cons.1 hb with q | q
      · rw [q]; intro e; subst e; exact I.notin (List.mem_append_left _ (sub _ ha))
      · exact h1.2.2 a ha b q
  · intro j hj
    rcases List.mem_append.1 hj with q | q
    · rcases List.mem_append.1 q with q | q
      · exact Nat.lt_succ_of_lt (I.lt j (List.mem_append_left _ (sub _ q)))
      · simp at q; omega
    · exact Nat.lt_succ_of_lt (I.lt j (List.mem_append_right _ q))
  · intro t j ht
    rcases Nat.lt_or_ge t (floorO O) with q | q
    · rw [List.getElem?_append_left (by omega)] at ht
      have hm := List.mem_of_getElem? ht
      rw [List.getElem?_take, if_pos q] at ht
      obtain ⟨a1, a2⟩ := I.pend t j ht
      have hne : i ≠ j := fun e => I.notin (by rw [e]; exact List.mem_append_left _ (sub _ hm))
      rw [List.getElem?_set_ne hne, settle_not _ _ _ _ (disj j hm)]
      exact ⟨a1, by rw [a2]; exact brk_step h _ _ (Or.inr (Or.inr (Or.inl ⟨k, dep_pos q, rfl⟩)))⟩
    · rw [List.getElem?_append_right (by omega), hlt] at ht
      have ht0 : t = floorO O := by
        have := (List.getElem?_eq_some_iff.1 ht).1
        simp at this; omega
      subst ht0
      simp at ht
      subst ht
      rw [List.getElem?_set_self (by rw [settle_len, I.len]; exact h), dep_floor I.mono (Nat.le_refl _)]
      refine ⟨rfl, ?_⟩
      have k' := k
      rw [kd_get h] at k'
      rw [pre_succ h, List.drop_eq_getElem_cons h]
      simp [size, k']
      omega
  · intro q o ho
    have hm : o.1 ∈ O.map Prod.fst := List.mem_map_of_mem (List.mem_of_getElem? ho)
    have hne : i ≠ o.1 := fun e => I.notin (by rw [e]; exact List.mem_append_right _ hm)
    have hnp : o.1 ∉ P.drop (floorO O) := fun q => (List.nodup_append.1 I.nd).2.2 o.1 (List.mem_of_mem_drop q) o.1 hm rfl
    obtain ⟨a1, a2, a3⟩ := I.opn q o ho
    have hq : q < O.length := (List.getElem?_eq_some_iff.1 ho).1
    rw [List.getElem?_set_ne hne, settle_not _ _ _ _ hnp]
    refine ⟨a1, by rw [a2]; exact brk_step h _ _ (Or.inr (Or.inr (Or.inl ⟨k, by omega, rfl⟩))), ?_⟩
    rw [List.length_append, hlt]
    have := mono_last I.mono o (List.mem_of_getElem? ho)
    omega
  · intro j hj hn
    have hne : i ≠ j := fun e => hn (by rw [e]; simp)
    rw [List.getElem?_set_ne hne]
    by_cases hp : j ∈ P.drop (floorO O)
    · obtain ⟨t, ht⟩ := List.getElem?_of_mem hp
      rw [List.getElem?_drop] at ht
      obtain ⟨a1, a2⟩ := I.pend _ j ht
      rw [settle_in _ _ _ _ _ hnd hp a1]
      rw [dep_floor I.mono (Nat.le_add_right _ _), brk_here h k] at a2
      congr 1
      omega
    · rw [settle_not _ _ _ _ hp]
      refine I.done j (by omega) fun q => ?_
      rcases List.mem_append.1 q with q | q
      · rw [← hsplit] at q
        rcases List.mem_append.1 q with q | q
        · exact hn (by simp [q])
        · exact hp q
      · exact hn (List.mem_append_right _ q)
  · intro j hj hl
    have hnp : j ∉ P.drop (floorO O) := fun q => by
      have := I.lt j (List.mem_append_left _ (List.mem_of_mem_drop q))
      omega
    rw [List.getElem?_set_ne (by omega), settle_not _ _ _ _ hnp]
    exact I.rest j (by omega) hl
theorem size_begin (h : i < l.length) (k : kd l i = 3) : size (l.drop i) = brk (l.drop (i + 1)) 1 := by
  rw [kd_get h] at k
  rw [List.drop_eq_getElem_cons h, ← grp_brk]
  simp [size, k]
/-- A group begins. -/
theorem Inv.begin (I : Inv l i z P O) (h : i < l.length) (k : kd l i = 3) : Inv l (i + 1) (z.set i (-((pre l i : Nat) : Int))) P (O ++ [(i, P.length)]) ∧ pre l (i + 1) = pre l i := by
  have k' := k
  rw [kd_get h] at k'
  have ho : l[i].own = 0 := by simp [It.own, k']
  have hp := pre_succ h
  rw [ho] at hp
  replace hp : pre l (i + 1) = pre l i := hp
  refine ⟨⟨h, by rw [List.length_set]; exact I.len, ?_, ?_, ?_, ?_, ?_, ?_, ?_⟩, hp⟩
  · rw [List.map_append, ← List.append_assoc]
    rw [List.nodup_append]
    refine ⟨I.nd, by simp, ?_⟩
    intro a ha b hb e
    simp at hb
    rw [e, hb] at ha
    exact I.notin ha
  · intro j hj
    rw [List.map_append, ← List.append_assoc] at hj
    rcases List.mem_append.1 hj with q | q
    · exact Nat.lt_succ_of_lt (I.lt j q)
    · simp at q; omega
  · intro t j ht
    have hne : i ≠ j := fun e => I.notin (by rw [e]; exact List.mem_append_left _ (List.mem_of_getElem? ht))
    obtain ⟨a1, a2⟩ := I.pend t j ht
    have htl : t < P.length := (List.getElem?_eq_some_iff.1 ht).1
    rw [List.getElem?_set_ne hne, dep_snoc, if_pos htl]
    exact ⟨a1, by rw [a2]; exact brk_step h _ _ (Or.inl ⟨k, rfl⟩)⟩
  · intro q o ho2
    rw [List.length_append, List.length_singleton]
    rcases Nat.lt_or_ge q O.length with hq | hq
    · rw [List.getElem?_append_left hq] at ho2
      have hne : i ≠ o.1 := fun e => I.notin (by rw [e]; exact List.mem_append_right _ (List.mem_map_of_mem (List.mem_of_getElem? ho2)))
      obtain ⟨a1, a2, a3⟩ := I.opn q o ho2
      rw [List.getElem?_set_ne hne]
      exact ⟨a1, by rw [a2]; exact brk_step h _ _ (Or.inl ⟨k, by omega⟩), a3⟩
    · rw [List.getElem?_append_right hq] at ho2
      have : q = O.length := by
        have := (List.getElem?_eq_some_iff.1 ho2).1
        simp at this; omega
      subst this
      simp at ho2
      subst ho2
      rw [List.getElem?_set_self (by rw [I.len]; exact h)]
      refine ⟨rfl, ?_, Nat.le_refl _⟩
      show pre l i + size (l.drop i) = _
      rw [size_begin h k, hp, show O.length + 1 - O.length = 1 by omega]
  · rw [List.pairwise_append]
    refine ⟨I.mono, by simp, ?_⟩
    intro a ha b hb
    simp at hb
    rw [hb]
    obtain ⟨q, hq⟩ := List.getElem?_of_mem ha
    exact (I.opn q a hq).2.2
  · intro j hj hn
    rw [List.map_append, ← List.append_assoc] at hn
    have hne : i ≠ j := fun e => hn (by rw [e]; simp)
    rw [List.getElem?_set_ne hne]
    exact I.done j (by omega) fun q => hn (List.mem_append_left _ q)
  · intro j hj hl
    rw [List.getElem?_set_ne (by omega)]
    exact I.rest j (by omega) hl
/-- An end without a group. -/
theorem Inv.end0 (I : Inv l i z P []) (h : i < l.length) (k : kd l i = 4) : Inv l (i + 1) z P [] ∧ pre l (i + 1) = pre l i := by
  have k' := k
  rw [kd_get h] at k'
  have ho : l[i].own = 0 := by simp [It.own, k']
  have hp := pre_succ h
  rw [ho] at hp
  replace hp : pre l (i + 1) = pre l i := hp
  refine ⟨⟨h, I.len, I.nd, fun j q => Nat.lt_succ_of_lt (I.lt j q), ?_, fun k o q => by simp at q, List.Pairwise.nil, ?_, fun j hj hl => I.rest j (by omega) hl⟩, hp⟩
  · intro t j ht
    obtain ⟨a1, a2⟩ := I.pend t j ht
    exact ⟨a1, by rw [a2]; exact brk_step h _ _ (Or.inr (Or.inl ⟨k, rfl⟩))⟩
  · intro j hj hn
    by_cases e : j = i
    · subst e
      rw [I.rest j (Nat.le_refl _) h, size_none h (by omega) (by omega) (by omega)]
      rfl
    · exact I.done j (by omega) hn
/-- The innermost group ends: now its beginning waits for a break. -/
theorem Inv.end1 {o : Nat × Nat} (I : Inv l i z P (O ++ [o])) (h : i < l.length) (k : kd l i = 4) : Inv l (i + 1) z (P ++ [o.1]) O ∧ pre l (i + 1) = pre l i := by
  have k' := k
  rw [kd_get h] at k'
  have ho : l[i].own = 0 := by simp [It.own, k']
  have hp := pre_succ h
  rw [ho] at hp
  replace hp : pre l (i + 1) = pre l i := hp
  have perm : ∀ j, j ∈ P ++ [o.1] ++ O.map Prod.fst ↔ j ∈ P ++ (O ++ [o]).map Prod.fst := fun j => by
    simp only [List.mem_append, List.map_append, List.map_cons, List.map_nil, List.mem_singleton]
    constructor
    · rintro ((q | q) | q)
      · exact Or.inl q
      · exact Or.inr (Or.inr q)
      · exact Or.inr (Or.inl q)
    · rintro (q | q | q)
      · exact Or.inl (Or.inl q)
      · exact Or.inr q
      · exact Or.inl (Or.inr q)
  have hm := (List.pairwise_append.1 I.mono)
  have hmo : ∀ a ∈ O, a.2 ≤ o.2 := fun a ha => hm.2.2 a ha o (by simp)
  refine ⟨⟨h, I.len, ?_, fun j q => Nat.lt_succ_of_lt (I.lt j ((perm j).1 q)), ?_, ?_, hm.1, ?_, fun j hj hl => I.rest j (by omega) hl⟩, hp⟩
  · have hn := I.nd
    rw [List.map_append, List.nodup_append, List.nodup_append] at hn
    obtain ⟨n1, ⟨n2, n3, n4⟩, n5⟩ := hn
    rw [List.append_assoc, List.nodup_append]
    refine ⟨n1, ?_, ?_⟩
    · show (o.1 :: O.map Prod.fst).Nodup
      rw [List.nodup_cons]
      exact ⟨fun q => n4 o.1 q o.1 (by simp) rfl, n2⟩
    · intro a ha b hb
      rcases List.mem_cons.1 hb with q | q
      · exact n5 a ha b (by rw [q]; simp)
      · exact n5 a ha b (List.mem_append_left _ q)
  · intro t j ht
    rcases Nat.lt_or_ge t P.length with q | q
    · rw [List.getElem?_append_left q] at ht
      obtain ⟨a1, a2⟩ := I.pend t j ht
      refine ⟨a1, a2.trans (brk_step h _ _ (Or.inr (Or.inl ⟨k, ?_⟩)))⟩
      rw [dep_snoc]
      split
      · omega
      · rw [dep_zero (fun a ha => by have := hmo a ha; omega)]
    · rw [List.getElem?_append_right q] at ht
      have : t = P.length := by
        have := (List.getElem?_eq_some_iff.1 ht).1
        simp at this; omega
      subst this
      simp at ht
      subst ht
      obtain ⟨a1, a2, a3⟩ := I.opn O.length o (by simp)
      refine ⟨a1, a2.trans (brk_step h _ _ (Or.inr (Or.inl ⟨k, ?_⟩)))⟩
      rw [dep_zero (fun a ha => by have := hmo a ha; omega)]
      simp
  · intro q a ha
    have hq : q < O.length := (List.getElem?_eq_some_iff.1 ha).1
    obtain ⟨a1, a2, a3⟩ := I.opn q a (by rw [List.getElem?_append_left hq]; exact ha)
    refine ⟨a1, a2.trans (brk_step h _ _ (Or.inr (Or.inl ⟨k, ?_⟩))), by rw [List.length_append]; omega⟩
    simp; omega
  · intro j hj hn
    by_cases e : j = i
    · subst e
      rw [I.rest j (Nat.le_refl _) h, size_none h (by omega) (by omega) (by omega)]
      rfl
    · exact I.done j (by omega) fun q => hn ((perm j).2 q)
/-- All are settled. -/
theorem Inv.all (I : Inv l l.length z P O) (j : Nat) (h : j < l.length) : (settle ((pre l l.length : Nat) : Int) (P ++ O.map Prod.fst) z)[j]? = some ((size (l.drop j) : Nat) : Int) := by
  have hz : ∀ d, brk (l.drop l.length) d = 0 := fun d => by rw [List.drop_length]; rfl
  by_cases hm : j ∈ P ++ O.map Prod.fst
  · have : z[j]? = some (-((pre l j : Nat) : Int)) ∧ pre l j + size (l.drop j) = pre l l.length := by
      rcases List.mem_append.1 hm with q | q
      · obtain ⟨t, ht⟩ := List.getElem?_of_mem q
        obtain ⟨a1, a2⟩ := I.pend t j ht
        rw [hz] at a2
        exact ⟨a1, a2⟩
      · obtain ⟨o, ho, rfl⟩ := List.mem_map.1 q
        obtain ⟨t, ht⟩ := List.getElem?_of_mem ho
        obtain ⟨a1, a2, _⟩ := I.opn t o ht
        rw [hz] at a2
        exact ⟨a1, a2⟩
    rw [settle_in _ _ _ _ _ I.nd hm this.1]
    congr 1
    omega
  · rw [settle_not _ _ _ _ hm]
    exact I.done j h hm
end
end Go.Proofs.PlatenLayout
