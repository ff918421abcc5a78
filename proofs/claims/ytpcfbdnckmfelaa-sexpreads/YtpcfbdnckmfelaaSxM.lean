/- The document's machine for S-expressions as plain mathematics, and its steps, as a reader that descends meets them. -/
namespace Go.Proofs.PlatenSexp
set_option linter.unusedVariables false

abbrev Tk := Nat × Nat × Nat
/-- The machine: its state (0 an expression must come, 1 within a list, 2 behind a comma, 3 an atom, 4 a string, 5 behind a backslash, 6 the end), how many are open, where an atom began, the tokens. -/
structure Sm where
  st : Nat
  dep : Nat
  fr : Nat
  l : List Tk
abbrev Res := List Tk × Nat × Nat
def isB (c : Nat) : Bool := decide (c = 32) || decide (c = 9) || decide (c = 10) || decide (c = 13)
def isP (c : Nat) : Bool := decide (32 < c) && !(decide (c = 40) || decide (c = 41) || decide (c = 34) || decide (c = 39) || decide (c = 96) || decide (c = 44) || decide (c = 59) || decide (c = 127))
/-- The state behind an expression. -/
def aft (dep : Nat) : Nat := if dep = 0 then 6 else 1
def start (M : Sm) (c i : Nat) : Nat × Sm :=
  if c = 39 ∨ c = 96 then (0, ⟨0, M.dep, i, M.l ++ [(6, i, 1)]⟩)
  else if c = 44 then (0, ⟨2, M.dep, i, M.l⟩)
  else if c = 40 then (if M.dep = 512 then (6, ⟨M.st, M.dep, i, M.l⟩) else (0, ⟨1, M.dep + 1, i, M.l ++ [(1, i, 1)]⟩))
  else if c = 34 then (0, ⟨4, M.dep, i, M.l⟩)
  else if isP c = true ∧ c ≠ 64 then (0, ⟨3, M.dep, i, M.l⟩)
  else (5, ⟨M.st, M.dep, i, M.l⟩)
def feedB (M : Sm) (c i : Nat) : Nat × Sm :=
  if isB c then (0, M)
  else if M.st = 6 then (5, M)
  else if c = 41 ∧ M.st = 1 then (0, ⟨aft (M.dep - 1), M.dep - 1, M.fr, M.l ++ [(2, i, 1)]⟩)
  else start M c i
def feed (M : Sm) (c i : Nat) : Nat × Sm :=
  if M.st = 4 then
    (if c = 34 then (0, ⟨aft M.dep, M.dep, M.fr, M.l ++ [(5, M.fr, i + 1 - M.fr)]⟩) else if c = 92 then (0, ⟨5, M.dep, M.fr, M.l⟩) else (0, M))
  else if M.st = 5 then (0, ⟨4, M.dep, M.fr, M.l⟩)
  else if M.st = 3 then
    (if isP c then (0, M) else feedB ⟨aft M.dep, M.dep, M.fr, M.l ++ [(5, M.fr, i - M.fr)]⟩ c i)
  else if M.st = 2 then
    (if c = 64 then (0, ⟨0, M.dep, M.fr, M.l ++ [(6, M.fr, i + 1 - M.fr)]⟩) else feedB ⟨0, M.dep, M.fr, M.l ++ [(6, M.fr, i - M.fr)]⟩ c i)
  else feedB M c i
def finA (M : Sm) (n : Nat) : Res := if M.st ≠ 6 then ([], n, 5) else (M.l, 0, 0)
def fin' (M : Sm) (n : Nat) : Res := finA (if M.st = 3 then ⟨aft M.dep, M.dep, M.fr, M.l ++ [(5, M.fr, n - M.fr)]⟩ else M) n
def run (f : Nat → Nat) : Nat → Nat → Sm → Res
  | 0, i, M => fin' M i
  | k + 1, i, M => if (feed M (f i) i).1 = 0 then run f k (i + 1) (feed M (f i) i).2 else ([], i, (feed M (f i) i).1)
/-- What the machine answers that stands ahead of byte i of n. -/
def out (f : Nat → Nat) (n : Nat) (M : Sm) (i : Nat) : Res := run f (n - i) i M
def M0 : Sm := ⟨0, 0, 0, []⟩
/-- The document's answer. -/
def ans (f : Nat → Nat) (n : Nat) : Res := out f n M0 0

theorem out_ok {f : Nat → Nat} {n : Nat} {M M' : Sm} {i : Nat} (h : i < n) (e : feed M (f i) i = (0, M')) : out f n M i = out f n M' (i + 1) := by
  unfold out
  rw [show n - i = (n - (i + 1)) + 1 by omega]
  simp only [run, e, if_true]
theorem out_no {f : Nat → Nat} {n : Nat} {M M' : Sm} {i x : Nat} (h : i < n) (e : feed M (f i) i = (x, M')) (hx : x ≠ 0) : out f n M i = ([], i, x) := by
  unfold out
  rw [show n - i = (n - (i + 1)) + 1 by omega]
  simp only [run, e, if_neg hx]
theorem out_end {f : Nat → Nat} {n : Nat} {M : Sm} : out f n M n = fin' M n := by
  unfold out
  rw [Nat.sub_self]
  rfl
/-- Two machines that take the next byte alike, and end alike, answer alike. -/
theorem out_same {f : Nat → Nat} {n : Nat} {M M' : Sm} {i : Nat} (hle : i ≤ n) (h1 : i < n → feed M (f i) i = feed M' (f i) i) (h2 : i = n → fin' M n = fin' M' n) : out f n M i = out f n M' i := by
  rcases Nat.lt_or_ge i n with h | h
  · unfold out
    rw [show n - i = (n - (i + 1)) + 1 by omega]
    simp only [run, h1 h]
  · obtain rfl : i = n := by omega
    rw [out_end, out_end, h2 rfl]

/-- The answer o is what the machine gives that stands at byte j so. -/
def Cur (f : Nat → Nat) (n : Nat) (o : Res) (st dep : Nat) (T : List Tk) (fr j : Nat) : Prop := o = out f n ⟨st, dep, fr, T⟩ j
def Cv (f : Nat → Nat) (n : Nat) (o : Res) (st dep : Nat) (T : List Tk) (j : Nat) : Prop := ∃ fr, Cur f n o st dep T fr j

section
variable {f : Nat → Nat} {n : Nat} {o : Res} {st dep : Nat} {T : List Tk} {fr j : Nat}

theorem Cur.cv (h : Cur f n o st dep T fr j) : Cv f n o st dep T j := ⟨_, h⟩
theorem begins (f : Nat → Nat) (n : Nat) : Cv f n (ans f n) 0 0 [] 0 := ⟨0, rfl⟩

/-! Blanks. -/
theorem b_one (h : Cv f n o st dep T j) (hs : st = 0 ∨ st = 1 ∨ st = 6) (hj : j < n) (hb : isB (f j) = true) : Cv f n o st dep T (j + 1) := by
  obtain ⟨fr, h⟩ := h
  refine ⟨fr, Eq.trans h (out_ok hj ?_)⟩
  rcases hs with rfl | rfl | rfl <;> simp [feed, feedB, hb]
/-- Blanks from i to j, and no further. -/
def Skp (f : Nat → Nat) (n i j : Nat) : Prop := i ≤ j ∧ j ≤ n ∧ (∀ k, i ≤ k → k < j → isB (f k) = true) ∧ (j < n → isB (f j) = false)
theorem b_skip {i : Nat} (hs : st = 0 ∨ st = 1 ∨ st = 6) (h : Cv f n o st dep T i) (k : Skp f n i j) : Cv f n o st dep T j := by
  obtain ⟨h1, h2, h3, _⟩ := k
  have : ∀ d, i + d ≤ j → Cv f n o st dep T (i + d) := by
    intro d
    induction d with
    | zero => intro _; exact h
    | succ d ih => intro hd; exact b_one (j := i + d) (ih (by omega)) hs (by omega) (h3 (i + d) (by omega) (by omega))
  have := this (j - i) (by omega)
  rwa [show i + (j - i) = j by omega] at this

/-! Quotes. -/
theorem nb_of {c : Nat} (h : c = 39 ∨ c = 96 ∨ c = 44 ∨ c = 40 ∨ c = 41 ∨ c = 34) : isB c = false := by
  rcases h with rfl | rfl | rfl | rfl | rfl | rfl <;> rfl
theorem q_one (h : Cv f n o st dep T j) (hs : st = 0 ∨ st = 1) (hj : j < n) (hc : f j = 39 ∨ f j = 96) : Cv f n o 0 dep (T ++ [(6, j, 1)]) (j + 1) := by
  obtain ⟨fr, h⟩ := h
  refine ⟨j, Eq.trans h (out_ok hj ?_)⟩
  rcases hc with hc | hc <;> rcases hs with rfl | rfl <;> simp [feed, feedB, isB, start, hc]
theorem comma (h : Cv f n o st dep T j) (hs : st = 0 ∨ st = 1) (hj : j < n) (hc : f j = 44) : Cur f n o 2 dep T j (j + 1) := by
  obtain ⟨fr, h⟩ := h
  refine Eq.trans h (out_ok hj ?_)
  rcases hs with rfl | rfl <;> simp [feed, feedB, isB, start, hc]
theorem q_at (h : Cur f n o 2 dep T fr j) (hj : j < n) (hc : f j = 64) : Cv f n o 0 dep (T ++ [(6, fr, j + 1 - fr)]) (j + 1) :=
  ⟨fr, Eq.trans h (out_ok hj (by simp [feed, hc]))⟩
theorem q_no (h : Cur f n o 2 dep T fr j) (hj : j ≤ n) (hc : j < n → f j ≠ 64) : Cv f n o 0 dep (T ++ [(6, fr, j - fr)]) j :=
  ⟨fr, Eq.trans h (out_same hj (fun q => by simp [feed, hc q]) (fun _ => by simp [fin', finA]))⟩

/-! Lists. -/
theorem l_open (h : Cv f n o st dep T j) (hs : st = 0 ∨ st = 1) (hj : j < n) (hc : f j = 40) (hd : dep ≠ 512) : Cv f n o 1 (dep + 1) (T ++ [(1, j, 1)]) (j + 1) := by
  obtain ⟨fr, h⟩ := h
  refine ⟨j, Eq.trans h (out_ok hj ?_)⟩
  rcases hs with rfl | rfl <;> simp [feed, feedB, isB, start, hc, hd]
theorem l_deep (h : Cv f n o st dep T j) (hs : st = 0 ∨ st = 1) (hj : j < n) (hc : f j = 40) (hd : dep = 512) : o = ([], j, 6) := by
  obtain ⟨fr, h⟩ := h
  refine Eq.trans h (out_no (M' := ⟨st, dep, j, T⟩) hj ?_ (by decide))
  rcases hs with rfl | rfl <;> simp [feed, feedB, isB, start, hc, hd]
theorem l_close (h : Cv f n o 1 dep T j) (hj : j < n) (hc : f j = 41) : Cv f n o (aft (dep - 1)) (dep - 1) (T ++ [(2, j, 1)]) (j + 1) := by
  obtain ⟨fr, h⟩ := h
  exact ⟨fr, Eq.trans h (out_ok hj (by simp [feed, feedB, isB, hc]))⟩

/-! Strings. -/
theorem t_open (h : Cv f n o st dep T j) (hs : st = 0 ∨ st = 1) (hj : j < n) (hc : f j = 34) : Cur f n o 4 dep T j (j + 1) := by
  obtain ⟨fr, h⟩ := h
  refine Eq.trans h (out_ok hj ?_)
  rcases hs with rfl | rfl <;> simp [feed, feedB, isB, start, hc]
theorem t_plain (h : Cur f n o 4 dep T fr j) (hj : j < n) (h1 : f j ≠ 34) (h2 : f j ≠ 92) : Cur f n o 4 dep T fr (j + 1) :=
  Eq.trans h (out_ok hj (by simp [feed, h1, h2]))
theorem t_slash (h : Cur f n o 4 dep T fr j) (hj : j < n) (h1 : f j = 92) : Cur f n o 5 dep T fr (j + 1) :=
  Eq.trans h (out_ok hj (by simp [feed, h1]))
theorem t_any (h : Cur f n o 5 dep T fr j) (hj : j < n) : Cur f n o 4 dep T fr (j + 1) :=
  Eq.trans h (out_ok hj (by simp [feed]))
theorem t_close (h : Cur f n o 4 dep T fr j) (hj : j < n) (h1 : f j = 34) : Cv f n o (aft dep) dep (T ++ [(5, fr, j + 1 - fr)]) (j + 1) :=
  ⟨fr, Eq.trans h (out_ok hj (by simp [feed, h1]))⟩
theorem t_end (h : Cur f n o st dep T fr n) (hs : st = 4 ∨ st = 5) : o = ([], n, 5) := by
  refine Eq.trans h ?_
  rw [out_end]
  rcases hs with rfl | rfl <;> simp [fin', finA]

/-! Atoms. -/
theorem p_nb {c : Nat} (h : isP c = true) : isB c = false ∧ c ≠ 39 ∧ c ≠ 96 ∧ c ≠ 44 ∧ c ≠ 40 ∧ c ≠ 34 ∧ c ≠ 41 := by
  simp only [isP, Bool.and_eq_true, decide_eq_true_eq, Bool.not_eq_true', Bool.or_eq_false_iff, decide_eq_false_iff_not] at h
  refine ⟨?_, by omega⟩
  simp only [isB, Bool.or_eq_false_iff, decide_eq_false_iff_not]
  omega
theorem a_open (h : Cv f n o st dep T j) (hs : st = 0 ∨ st = 1) (hj : j < n) (hc : isP (f j) = true) (h6 : f j ≠ 64) : Cur f n o 3 dep T j (j + 1) := by
  obtain ⟨fr, h⟩ := h
  obtain ⟨a0, a1, a2, a3, a4, a5, a6⟩ := p_nb hc
  refine Eq.trans h (out_ok hj ?_)
  rcases hs with rfl | rfl <;> simp [feed, feedB, a0, start, hc, a1, a2, a3, a4, a5, a6, h6]
theorem a_more (h : Cur f n o 3 dep T fr j) (hj : j < n) (hc : isP (f j) = true) : Cur f n o 3 dep T fr (j + 1) :=
  Eq.trans h (out_ok hj (by simp [feed, hc]))
theorem aft_cases (d : Nat) : aft d = 6 ∧ d = 0 ∨ aft d = 1 ∧ d ≠ 0 := by unfold aft; split <;> simp [*]
theorem a_end (h : Cur f n o 3 dep T fr j) (hj : j ≤ n) (hc : j < n → isP (f j) = false) : Cv f n o (aft dep) dep (T ++ [(5, fr, j - fr)]) j := by
  refine ⟨fr, Eq.trans h (out_same hj (fun q => ?_) (fun q => ?_))⟩
  · rcases aft_cases dep with ⟨e, _⟩ | ⟨e, _⟩ <;> rw [e] <;> simp [feed, hc q, e]
  · subst q
    rcases aft_cases dep with ⟨e, _⟩ | ⟨e, _⟩ <;> rw [e] <;> simp [fin', e]

/-! What may not be, and the end. -/
/-- Bytes with which an expression begins. -/
def isX (c : Nat) : Bool := decide (c = 39) || decide (c = 96) || decide (c = 44) || decide (c = 40) || decide (c = 34) || (isP c && !decide (c = 64))
theorem x_bad (h : Cv f n o st dep T j) (hs : st = 0 ∨ st = 1) (hj : j < n) (hb : isB (f j) = false) (hx : isX (f j) = false) (h1 : st = 1 → f j ≠ 41) : o = ([], j, 5) := by
  obtain ⟨fr, h⟩ := h
  simp only [isX, Bool.or_eq_false_iff, decide_eq_false_iff_not, Bool.and_eq_false_iff, Bool.not_eq_false', decide_eq_true_eq] at hx
  obtain ⟨⟨⟨⟨⟨a1, a2⟩, a3⟩, a4⟩, a5⟩, a6⟩ := hx
  have a7 : ¬ (isP (f j) = true ∧ f j ≠ 64) := by
    intro q
    rcases a6 with e | e
    · rw [e] at q; exact absurd q.1 (by decide)
    · exact q.2 e
  refine Eq.trans h (out_no (M' := ⟨st, dep, j, T⟩) hj ?_ (by decide))
  rcases hs with rfl | rfl
  · simp only [feed, feedB, hb, start, a1, a2, a3, a4, a5, a7, if_false, Bool.false_eq_true, or_self]
    simp
  · have := h1 rfl
    simp only [feed, feedB, hb, start, a1, a2, a3, a4, a5, a7, this, if_false, Bool.false_eq_true, or_self]
    simp
theorem x_end (h : Cv f n o st dep T n) (hs : st = 0 ∨ st = 1) : o = ([], n, 5) := by
  obtain ⟨fr, h⟩ := h
  refine Eq.trans h ?_
  rw [out_end]
  rcases hs with rfl | rfl <;> simp [fin', finA]
theorem top_ok (h : Cv f n o 6 dep T n) : o = (T, 0, 0) := by
  obtain ⟨fr, h⟩ := h
  refine Eq.trans h ?_
  rw [out_end]
  simp [fin', finA]
theorem top_bad (h : Cv f n o 6 dep T j) (hj : j < n) (hb : isB (f j) = false) : o = ([], j, 5) := by
  obtain ⟨fr, h⟩ := h
  exact Eq.trans h (out_no (M' := ⟨6, dep, fr, T⟩) hj (by simp [feed, feedB, hb]) (by decide))
end

/-! Where an error is, and of which bytes it comes. -/
theorem run_congr {f f' : Nat → Nat} : ∀ (k i : Nat) (M : Sm), (∀ j, i ≤ j → j < i + k → f' j = f j) → run f' k i M = run f k i M
  | 0, _, _, _ => rfl
  | k + 1, i, M, h => by
    unfold run
    rw [h i (Nat.le_refl _) (by omega)]
    split
    · exact run_congr k (i + 1) _ (fun j h1 h2 => h j (by omega) (by omega))
    · rfl
theorem ans_congr {f f' : Nat → Nat} {n : Nat} (h : ∀ j, j < n → f' j = f j) : ans f' n = ans f n := run_congr (n - 0) 0 M0 (fun j _ hj => h j (by omega))
theorem fin_cases (M : Sm) (i : Nat) : ((fin' M i).2.2 = 0 ∧ (fin' M i).2.1 = 0) ∨ fin' M i = ([], i, 5) := by
  unfold fin' finA
  split <;> split <;> simp
theorem run_cases (f : Nat → Nat) : ∀ (k i : Nat) (M : Sm), ((run f k i M).2.2 = 0 ∧ (run f k i M).2.1 = 0) ∨ run f k i M = ([], i + k, 5) ∨
    ∃ j x, i ≤ j ∧ j < i + k ∧ x ≠ 0 ∧ run f k i M = ([], j, x) ∧ (∀ f' k', (∀ t, t ≤ j → f' t = f t) → j < i + k' → run f' k' i M = ([], j, x)) ∧ (∀ f', (∀ t, t < j → f' t = f t) → ∃ M', run f' (j - i) i M = fin' M' j)
  | 0, i, M => by
    rcases fin_cases M i with h | h
    · exact Or.inl h
    · exact Or.inr (Or.inl h)
  | k + 1, i, M => by
    by_cases h0 : (feed M (f i) i).1 = 0
    · have e : run f (k + 1) i M = run f k (i + 1) (feed M (f i) i).2 := by rw [run, if_pos h0]
      rw [e]
      rcases run_cases f k (i + 1) (feed M (f i) i).2 with h | h | ⟨j, x, h1, h2, h3, h4, h5, h6⟩
      · exact Or.inl h
      · exact Or.inr (Or.inl (by rw [h]; congr 2; omega))
      · refine Or.inr (Or.inr ⟨j, x, by omega, by omega, h3, h4, fun f' k' ha hk => ?_, fun f' ha => ?_⟩)
        · obtain ⟨q, rfl⟩ : ∃ q, k' = q + 1 := ⟨k' - 1, by omega⟩
          rw [run, ha i (by omega), if_pos h0]
          exact h5 f' q ha (by omega)
        · obtain ⟨M', hM⟩ := h6 f' ha
          refine ⟨M', ?_⟩
          rw [show j - i = (j - (i + 1)) + 1 by omega, run, ha i (by omega), if_pos h0]
          exact hM
    · have e : run f (k + 1) i M = ([], i, (feed M (f i) i).1) := by rw [run, if_neg h0]
      refine Or.inr (Or.inr ⟨i, (feed M (f i) i).1, Nat.le_refl _, by omega, h0, e, fun f' k' ha hk => ?_, fun f' ha => ⟨M, by rw [Nat.sub_self]; rfl⟩⟩)
      obtain ⟨q, rfl⟩ : ∃ q, k' = q + 1 := ⟨k' - 1, by omega⟩
      rw [run, ha i (Nat.le_refl _), if_neg h0]
/-- An answer is right, or wrong at the end, or at a byte, of which alone, and of those ahead, it comes. -/
theorem ans_cases (f : Nat → Nat) (n : Nat) : ((ans f n).2.2 = 0 ∧ (ans f n).2.1 = 0) ∨ ans f n = ([], n, 5) ∨
    ∃ j x, j < n ∧ x ≠ 0 ∧ ans f n = ([], j, x) ∧ (∀ f' n', (∀ t, t ≤ j → f' t = f t) → j < n' → ans f' n' = ([], j, x)) ∧ (∀ f', (∀ t, t < j → f' t = f t) → (ans f' j).2.2 = 0 ∨ ans f' j = ([], j, 5)) := by
  rcases run_cases f (n - 0) 0 M0 with h | h | ⟨j, x, h1, h2, h3, h4, h5, h6⟩
  · exact Or.inl h
  · exact Or.inr (Or.inl (by unfold ans out; rw [h]; congr 2; omega))
  · refine Or.inr (Or.inr ⟨j, x, by omega, h3, h4, fun f' n' ha hn => h5 f' (n' - 0) ha (by omega), fun f' ha => ?_⟩)
    obtain ⟨M', hM⟩ := h6 f' ha
    unfold ans out
    rw [hM]
    rcases fin_cases M' j with h | h
    · exact Or.inl h.1
    · exact Or.inr h
end Go.Proofs.PlatenSexp
