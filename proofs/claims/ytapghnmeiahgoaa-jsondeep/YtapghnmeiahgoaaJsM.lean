/- The document's machine for JSON as plain mathematics, and its steps, byte by byte, as a reader that descends meets them. -/
namespace Go.Proofs.PlatenJson
set_option linter.unusedVariables false

abbrev Tk := Nat × Nat × Nat
/-- The machine: its state, what is open (the innermost first), where an atom began, whether it is a name, what is left of a word, how many signs of an escape, the tokens. -/
structure Mc where
  st : Nat
  stack : List Nat
  fr : Nat
  nm : Bool
  left : List Nat
  cnt : Nat
  l : List Tk
def isD (c : Nat) : Bool := decide (48 ≤ c) && decide (c ≤ 57)
def isH (c : Nat) : Bool := isD c || (decide (97 ≤ c) && decide (c ≤ 102)) || (decide (65 ≤ c) && decide (c ≤ 70))
def isB (c : Nat) : Bool := decide (c = 32) || decide (c = 9) || decide (c = 10) || decide (c = 13)
def isE (c : Nat) : Bool := decide (c = 34) || decide (c = 92) || decide (c = 47) || decide (c = 98) || decide (c = 102) || decide (c = 110) || decide (c = 114) || decide (c = 116)
def numb (s c : Nat) : Nat × Bool :=
  if s = 9 then (if c = 48 then (10, true) else (11, isD c))
  else if s = 10 ∨ s = 11 then (if c = 46 then (12, true) else if c = 101 ∨ c = 69 then (14, true) else (11, decide (s = 11) && isD c))
  else if s = 12 then (13, isD c)
  else if s = 13 then (if c = 101 ∨ c = 69 then (14, true) else (13, isD c))
  else if s = 14 then (if c = 43 ∨ c = 45 then (15, true) else (16, isD c))
  else if s = 15 ∨ s = 16 then (16, isD c)
  else (0, false)
def ends (s : Nat) : Bool := decide (s = 10) || decide (s = 11) || decide (s = 13) || decide (s = 16)
def atom (M : Mc) (i : Nat) : Mc := { M with l := M.l ++ [(5, M.fr, i - M.fr)], st := if M.nm then 4 else 5, nm := false }
def one (M : Mc) (k i st : Nat) : Mc := { M with l := M.l ++ [(k, i, 1)], st := st }
def begin' (M : Mc) (c i : Nat) : Nat × Mc :=
  if c = 123 ∨ c = 91 then
    if M.stack.length = 512 then (6, { M with fr := i })
    else (0, { M with fr := i, stack := c :: M.stack, l := M.l ++ [(1, i, 1)], st := if c = 123 then 2 else 1 })
  else if c = 34 then (0, { M with fr := i, st := 6 })
  else if c = 45 then (0, { M with fr := i, st := 9 })
  else if c = 48 then (0, { M with fr := i, st := 10 })
  else if isD c then (0, { M with fr := i, st := 11 })
  else if c = 116 then (0, { M with fr := i, st := 17, left := [114, 117, 101] })
  else if c = 102 then (0, { M with fr := i, st := 17, left := [97, 108, 115, 101] })
  else if c = 110 then (0, { M with fr := i, st := 17, left := [117, 108, 108] })
  else (5, { M with fr := i })
def next (M : Mc) (c i : Nat) : Nat × Mc :=
  match M.stack with
  | [] => (5, M)
  | b :: S =>
    if c = 44 ∧ b = 91 then (0, one M 3 i 0)
    else if c = 44 then (0, one M 3 i 3)
    else if (c = 93 ∧ b = 91) ∨ (c = 125 ∧ b ≠ 91) then (0, one { M with stack := S } 2 i 5)
    else (5, M)
def inside (M : Mc) (c i : Nat) : Nat × Mc :=
  if M.st = 6 then
    if c < 32 then (5, M) else if c = 34 then (0, atom M (i + 1)) else if c = 92 then (0, { M with st := 7 }) else (0, M)
  else if M.st = 7 then
    if c = 117 then (0, { M with st := 8, cnt := 4 }) else if isE c then (0, { M with st := 6 }) else (5, { M with st := 6 })
  else if M.st = 8 then
    if isH c then (0, { M with cnt := M.cnt - 1, st := if M.cnt - 1 = 0 then 6 else 8 }) else (5, M)
  else
    match M.left with
    | [] => (5, M)
    | b :: r => if c ≠ b then (5, M) else if r = [] then (0, atom { M with left := r } (i + 1)) else (0, { M with left := r })
def feedA (M : Mc) (c i : Nat) : Nat × Mc :=
  if M.st = 6 ∨ M.st = 7 ∨ M.st = 8 ∨ M.st = 17 then inside M c i
  else if M.st = 9 ∨ M.st = 12 ∨ M.st = 14 ∨ M.st = 15 then (5, M)
  else if isB c then (0, M)
  else if M.st = 0 then begin' M c i
  else if M.st = 1 then (if c = 93 then next M c i else begin' M c i)
  else if M.st = 2 ∨ M.st = 3 then
    (if c = 125 ∧ M.st = 2 then next M c i else if c ≠ 34 then (5, M) else (0, { M with fr := i, st := 6, nm := true }))
  else if M.st = 4 then (if c ≠ 58 then (5, M) else (0, one M 4 i 0))
  else next M c i
def feed (M : Mc) (c i : Nat) : Nat × Mc :=
  if (numb M.st c).2 then (0, { M with st := (numb M.st c).1 })
  else feedA (if ends M.st then atom M i else M) c i

abbrev Res := List Tk × Nat × Nat
def finA (M : Mc) (n : Nat) : Res := if M.st ≠ 5 ∨ M.stack ≠ [] then ([], n, 5) else (M.l, 0, 0)
def fin' (M : Mc) (n : Nat) : Res := finA (if ends M.st then atom M n else M) n
def run (f : Nat → Nat) : Nat → Nat → Mc → Res
  | 0, i, M => fin' M i
  | k + 1, i, M => if (feed M (f i) i).1 = 0 then run f k (i + 1) (feed M (f i) i).2 else ([], i, (feed M (f i) i).1)
/-- What the machine answers that stands ahead of byte i of n. -/
def out (f : Nat → Nat) (n : Nat) (M : Mc) (i : Nat) : Res := run f (n - i) i M
def M0 : Mc := ⟨0, [], 0, false, [], 0, []⟩
/-- The document's answer. -/
def ans (f : Nat → Nat) (n : Nat) : Res := out f n M0 0

theorem out_ok {f : Nat → Nat} {n : Nat} {M M' : Mc} {i : Nat} (h : i < n) (e : feed M (f i) i = (0, M')) : out f n M i = out f n M' (i + 1) := by
  unfold out
  rw [show n - i = (n - (i + 1)) + 1 by omega]
  simp only [run, e, if_true]
theorem out_no {f : Nat → Nat} {n : Nat} {M M' : Mc} {i x : Nat} (h : i < n) (e : feed M (f i) i = (x, M')) (hx : x ≠ 0) : out f n M i = ([], i, x) := by
  unfold out
  rw [show n - i = (n - (i + 1)) + 1 by omega]
  simp only [run, e, if_neg hx]
theorem out_end {f : Nat → Nat} {n : Nat} {M : Mc} : out f n M n = fin' M n := by
  unfold out
  rw [Nat.sub_self]
  rfl

/-- The answer o is what the machine gives that stands at byte j so. -/
def Cur (f : Nat → Nat) (n : Nat) (o : Res) (st : Nat) (S : List Nat) (T : List Tk) (nm : Bool) (fr j : Nat) : Prop :=
  ∃ M : Mc, M.st = st ∧ M.stack = S ∧ M.l = T ∧ M.nm = nm ∧ M.fr = fr ∧ o = out f n M j
def Cv (f : Nat → Nat) (n : Nat) (o : Res) (st : Nat) (S : List Nat) (T : List Tk) (nm : Bool) (j : Nat) : Prop := ∃ fr, Cur f n o st S T nm fr j
def CurH (f : Nat → Nat) (n : Nat) (o : Res) (k : Nat) (S : List Nat) (T : List Tk) (nm : Bool) (fr j : Nat) : Prop :=
  ∃ M : Mc, M.st = 8 ∧ M.cnt = k ∧ M.stack = S ∧ M.l = T ∧ M.nm = nm ∧ M.fr = fr ∧ o = out f n M j
def CurW (f : Nat → Nat) (n : Nat) (o : Res) (r : List Nat) (S : List Nat) (T : List Tk) (fr j : Nat) : Prop :=
  ∃ M : Mc, M.st = 17 ∧ M.left = r ∧ M.stack = S ∧ M.l = T ∧ M.nm = false ∧ M.fr = fr ∧ o = out f n M j

section
variable {f : Nat → Nat} {n : Nat} {o : Res} {st : Nat} {S : List Nat} {T : List Tk} {nm : Bool} {fr j : Nat}

/-! Numbers. -/
theorem s_minus (h : Cv f n o st S T nm j) (hs : st = 0 ∨ st = 1) (hj : j < n) (hc : f j = 45) : Cur f n o 9 S T nm j (j + 1) := by
  obtain ⟨_, ⟨st', S', fr', nm', left, cnt, T'⟩, h1, h2, h3, h4, h5, h6⟩ := h
  simp only at h1 h2 h3 h4 h5
  subst h1 h2 h3 h4 h5
  refine ⟨_, rfl, rfl, rfl, rfl, rfl, h6.trans (out_ok (M' := ⟨9, S', j, nm', left, cnt, T'⟩) hj ?_)⟩
  rcases hs with rfl | rfl <;> simp [feed, numb, ends, feedA, isB, begin', hc]
theorem s_zero (h : Cv f n o st S T nm j) (hs : st = 0 ∨ st = 1) (hj : j < n) (hc : f j = 48) : Cur f n o 10 S T nm j (j + 1) := by
  obtain ⟨_, ⟨st', S', fr', nm', left, cnt, T'⟩, h1, h2, h3, h4, h5, h6⟩ := h
  simp only at h1 h2 h3 h4 h5
  subst h1 h2 h3 h4 h5
  refine ⟨_, rfl, rfl, rfl, rfl, rfl, h6.trans (out_ok (M' := ⟨10, S', j, nm', left, cnt, T'⟩) hj ?_)⟩
  rcases hs with rfl | rfl <;> simp [feed, numb, ends, feedA, isB, begin', hc]
theorem isD_iff {c : Nat} : isD c = true ↔ 48 ≤ c ∧ c ≤ 57 := by simp [isD]
theorem s_digit (h : Cv f n o st S T nm j) (hs : st = 0 ∨ st = 1) (hj : j < n) (hc : isD (f j) = true) (h0 : f j ≠ 48) : Cur f n o 11 S T nm j (j + 1) := by
  obtain ⟨_, ⟨st', S', fr', nm', left, cnt, T'⟩, h1, h2, h3, h4, h5, h6⟩ := h
  simp only at h1 h2 h3 h4 h5
  subst h1 h2 h3 h4 h5
  refine ⟨_, rfl, rfl, rfl, rfl, rfl, h6.trans (out_ok (M' := ⟨11, S', j, nm', left, cnt, T'⟩) hj ?_)⟩
  obtain ⟨a, b⟩ := isD_iff.1 hc
  have x1 : ¬ f j = 32 := by omega
  have x2 : ¬ f j = 9 := by omega
  have x3 : ¬ f j = 10 := by omega
  have x4 : ¬ f j = 13 := by omega
  have x5 : ¬ f j = 123 := by omega
  have x6 : ¬ f j = 91 := by omega
  have x7 : ¬ f j = 34 := by omega
  have x8 : ¬ f j = 45 := by omega
  have x9 : ¬ f j = 93 := by omega
  rcases hs with rfl | rfl <;> simp [feed, numb, ends, feedA, isB, begin', hc, x1, x2, x3, x4, x5, x6, x7, x8, x9, h0]
/-- Bytes with which a value begins. -/
def isV (c : Nat) : Bool := decide (c = 123) || decide (c = 91) || decide (c = 34) || decide (c = 45) || isD c || decide (c = 116) || decide (c = 102) || decide (c = 110)
theorem v_bad (h : Cv f n o st S T nm j) (hs : st = 0 ∨ st = 1) (hj : j < n) (hb : isB (f j) = false) (hv : isV (f j) = false) (h1 : st = 1 → f j ≠ 93) : o = ([], j, 5) := by
  obtain ⟨_, ⟨st', S', fr', nm', left, cnt, T'⟩, e1, e2, e3, e4, e5, e6⟩ := h
  simp only at e1 e2 e3 e4 e5
  subst e1 e2 e3 e4 e5
  refine e6.trans (out_no (M' := ⟨st', S', j, nm', left, cnt, T'⟩) hj ?_ (by decide))
  simp only [isV, Bool.or_eq_false_iff, decide_eq_false_iff_not] at hv
  obtain ⟨⟨⟨⟨⟨⟨⟨a1, a2⟩, a3⟩, a4⟩, a5⟩, a6⟩, a7⟩, a8⟩ := hv
  have x48 : ¬ f j = 48 := by intro e; rw [e] at a5; simp [isD] at a5
  rcases hs with rfl | rfl
  · simp [feed, numb, ends, feedA, hb, begin', a1, a2, a3, a4, a5, a6, a7, a8, x48]
  · have := h1 rfl
    simp [feed, numb, ends, feedA, hb, begin', a1, a2, a3, a4, a5, a6, a7, a8, x48, this]
theorem v_end (h : Cv f n o st S T nm n) (hs : st ≤ 4) : o = ([], n, 5) := by
  obtain ⟨_, ⟨st', S', fr', nm', left, cnt, T'⟩, e1, e2, e3, e4, e5, e6⟩ := h
  simp only at e1 e2 e3 e4 e5
  subst e1
  rw [e6, out_end]
  have : ends st' = false := by simp [ends]; omega
  have h5 : ¬ st' = 5 := by omega
  simp [fin', finA, this, h5]
theorem m_zero (h : Cur f n o 9 S T nm fr j) (hj : j < n) (hc : f j = 48) : Cur f n o 10 S T nm fr (j + 1) := by
  obtain ⟨⟨st', S', fr', nm', left, cnt, T'⟩, h1, h2, h3, h4, h5, h6⟩ := h
  simp only at h1 h2 h3 h4 h5
  subst h1 h2 h3 h4 h5
  refine ⟨_, rfl, rfl, rfl, rfl, rfl, h6.trans (out_ok (M' := ⟨10, S', fr', nm', left, cnt, T'⟩) hj ?_)⟩
  simp [feed, numb, hc]
theorem m_digit (h : Cur f n o 9 S T nm fr j) (hj : j < n) (hc : isD (f j) = true) (h0 : f j ≠ 48) : Cur f n o 11 S T nm fr (j + 1) := by
  obtain ⟨⟨st', S', fr', nm', left, cnt, T'⟩, h1, h2, h3, h4, h5, h6⟩ := h
  simp only at h1 h2 h3 h4 h5
  subst h1 h2 h3 h4 h5
  refine ⟨_, rfl, rfl, rfl, rfl, rfl, h6.trans (out_ok (M' := ⟨11, S', fr', nm', left, cnt, T'⟩) hj ?_)⟩
  simp [feed, numb, hc, h0]
/-- A sign, a point, an e: a digit must come. -/
theorem n_bad (h : Cur f n o st S T nm fr j) (hs : st = 9 ∨ st = 12 ∨ st = 14 ∨ st = 15) (hj : j < n) (hc : isD (f j) = false) (h1 : st = 14 → f j ≠ 43 ∧ f j ≠ 45) : o = ([], j, 5) := by
  obtain ⟨⟨st', S', fr', nm', left, cnt, T'⟩, e1, e2, e3, e4, e5, e6⟩ := h
  simp only at e1 e2 e3 e4 e5
  subst e1 e2 e3 e4 e5
  have x48 : ¬ f j = 48 := by intro e; rw [e] at hc; simp [isD] at hc
  refine e6.trans (out_no (M' := ⟨st', S', fr', nm', left, cnt, T'⟩) hj ?_ (by decide))
  rcases hs with rfl | rfl | rfl | rfl
  · simp [feed, numb, ends, feedA, hc, x48]
  · simp [feed, numb, ends, feedA, hc]
  · obtain ⟨a, b⟩ := h1 rfl
    simp [feed, numb, ends, feedA, hc, a, b]
  · simp [feed, numb, ends, feedA, hc]
theorem n_bad_end (h : Cur f n o st S T nm fr n) (hs : ends st = false) (h5 : st ≠ 5) : o = ([], n, 5) := by
  obtain ⟨⟨st', S', fr', nm', left, cnt, T'⟩, e1, e2, e3, e4, e5, e6⟩ := h
  simp only at e1 e2 e3 e4 e5
  subst e1
  rw [e6, out_end]
  simp [fin', finA, hs, h5]
theorem n_digit (h : Cur f n o st S T nm fr j) (hs : st = 11 ∨ st = 13 ∨ st = 16) (hj : j < n) (hc : isD (f j) = true) : Cur f n o st S T nm fr (j + 1) := by
  obtain ⟨⟨st', S', fr', nm', left, cnt, T'⟩, h1, h2, h3, h4, h5, h6⟩ := h
  simp only at h1 h2 h3 h4 h5
  subst h1 h2 h3 h4 h5
  obtain ⟨a, b⟩ := isD_iff.1 hc
  have x1 : ¬ f j = 46 := by omega
  have x2 : ¬ f j = 101 := by omega
  have x3 : ¬ f j = 69 := by omega
  refine ⟨_, rfl, rfl, rfl, rfl, rfl, h6.trans (out_ok (M' := ⟨st', S', fr', nm', left, cnt, T'⟩) hj ?_)⟩
  rcases hs with rfl | rfl | rfl <;> simp [feed, numb, hc, x1, x2, x3]
theorem n_point (h : Cur f n o st S T nm fr j) (hs : st = 10 ∨ st = 11) (hj : j < n) (hc : f j = 46) : Cur f n o 12 S T nm fr (j + 1) := by
  obtain ⟨⟨st', S', fr', nm', left, cnt, T'⟩, h1, h2, h3, h4, h5, h6⟩ := h
  simp only at h1 h2 h3 h4 h5
  subst h1 h2 h3 h4 h5
  refine ⟨_, rfl, rfl, rfl, rfl, rfl, h6.trans (out_ok (M' := ⟨12, S', fr', nm', left, cnt, T'⟩) hj ?_)⟩
  rcases hs with rfl | rfl <;> simp [feed, numb, hc]
theorem n_frac (h : Cur f n o 12 S T nm fr j) (hj : j < n) (hc : isD (f j) = true) : Cur f n o 13 S T nm fr (j + 1) := by
  obtain ⟨⟨st', S', fr', nm', left, cnt, T'⟩, h1, h2, h3, h4, h5, h6⟩ := h
  simp only at h1 h2 h3 h4 h5
  subst h1 h2 h3 h4 h5
  refine ⟨_, rfl, rfl, rfl, rfl, rfl, h6.trans (out_ok (M' := ⟨13, S', fr', nm', left, cnt, T'⟩) hj ?_)⟩
  simp [feed, numb, hc]
theorem n_exp (h : Cur f n o st S T nm fr j) (hs : st = 10 ∨ st = 11 ∨ st = 13) (hj : j < n) (hc : f j = 101 ∨ f j = 69) : Cur f n o 14 S T nm fr (j + 1) := by
  obtain ⟨⟨st', S', fr', nm', left, cnt, T'⟩, h1, h2, h3, h4, h5, h6⟩ := h
  simp only at h1 h2 h3 h4 h5
  subst h1 h2 h3 h4 h5
  refine ⟨_, rfl, rfl, rfl, rfl, rfl, h6.trans (out_ok (M' := ⟨14, S', fr', nm', left, cnt, T'⟩) hj ?_)⟩
  rcases hc with hc | hc <;> rcases hs with rfl | rfl | rfl <;> simp [feed, numb, hc]
theorem n_sign (h : Cur f n o 14 S T nm fr j) (hj : j < n) (hc : f j = 43 ∨ f j = 45) : Cur f n o 15 S T nm fr (j + 1) := by
  obtain ⟨⟨st', S', fr', nm', left, cnt, T'⟩, h1, h2, h3, h4, h5, h6⟩ := h
  simp only at h1 h2 h3 h4 h5
  subst h1 h2 h3 h4 h5
  refine ⟨_, rfl, rfl, rfl, rfl, rfl, h6.trans (out_ok (M' := ⟨15, S', fr', nm', left, cnt, T'⟩) hj ?_)⟩
  rcases hc with hc | hc <;> simp [feed, numb, hc]
theorem n_pow (h : Cur f n o st S T nm fr j) (hs : st = 14 ∨ st = 15) (hj : j < n) (hc : isD (f j) = true) : Cur f n o 16 S T nm fr (j + 1) := by
  obtain ⟨⟨st', S', fr', nm', left, cnt, T'⟩, h1, h2, h3, h4, h5, h6⟩ := h
  simp only at h1 h2 h3 h4 h5
  subst h1 h2 h3 h4 h5
  obtain ⟨a, b⟩ := isD_iff.1 hc
  have x1 : ¬ f j = 43 := by omega
  have x2 : ¬ f j = 45 := by omega
  refine ⟨_, rfl, rfl, rfl, rfl, rfl, h6.trans (out_ok (M' := ⟨16, S', fr', nm', left, cnt, T'⟩) hj ?_)⟩
  rcases hs with rfl | rfl <;> simp [feed, numb, hc, x1, x2]
theorem ends_iff {s : Nat} : ends s = true ↔ s = 10 ∨ s = 11 ∨ s = 13 ∨ s = 16 := by simp [ends, or_assoc]
/-- A number ends where nothing goes on with it. -/
theorem n_atom (h : Cur f n o st S T nm fr j) (hs : ends st = true) (hle : j ≤ n) (hc : j < n → (numb st (f j)).2 = false) : Cv f n o (if nm then 4 else 5) S (T ++ [(5, fr, j - fr)]) false j := by
  obtain ⟨⟨st', S', fr', nm', left, cnt, T'⟩, h1, h2, h3, h4, h5, h6⟩ := h
  simp only at h1 h2 h3 h4 h5
  subst h1 h2 h3 h4 h5
  refine ⟨_, ⟨if nm' then 4 else 5, S', fr', false, left, cnt, T' ++ [(5, fr', j - fr')]⟩, rfl, rfl, rfl, rfl, rfl, h6.trans ?_⟩
  rcases Nat.lt_or_ge j n with hj | hj
  · have hn := hc hj
    have e1 : feed ⟨st', S', fr', nm', left, cnt, T'⟩ (f j) j = feed ⟨if nm' then 4 else 5, S', fr', false, left, cnt, T' ++ [(5, fr', j - fr')]⟩ (f j) j := by
      have q : (numb (if nm' then 4 else 5) (f j)).2 = false := by cases nm' <;> rfl
      have q2 : ends (if nm' then 4 else 5) = false := by cases nm' <;> rfl
      simp only [feed, hn, hs, q, q2, Bool.false_eq_true, if_false, if_true, atom]
    unfold out
    rw [show n - j = (n - (j + 1)) + 1 by omega]
    simp only [run, e1]
  · obtain rfl : j = n := by omega
    rw [out_end, out_end]
    have q2 : ends (if nm' then 4 else 5) = false := by cases nm' <;> rfl
    simp only [fin', hs, q2, atom, Bool.false_eq_true, if_false, if_true]

/-! Blanks. -/
theorem b_one (h : Cv f n o st S T nm j) (hs : st ≤ 5) (hj : j < n) (hb : isB (f j) = true) : Cv f n o st S T nm (j + 1) := by
  obtain ⟨fr, ⟨st', S', fr', nm', left, cnt, T'⟩, h1, h2, h3, h4, h5, h6⟩ := h
  simp only at h1 h2 h3 h4 h5
  subst h1 h2 h3 h4 h5
  refine ⟨_, _, rfl, rfl, rfl, rfl, rfl, h6.trans (out_ok (M' := ⟨st', S', fr', nm', left, cnt, T'⟩) hj ?_)⟩
  have a1 : (numb st' (f j)).2 = false := by
    have : st' = 0 ∨ st' = 1 ∨ st' = 2 ∨ st' = 3 ∨ st' = 4 ∨ st' = 5 := by omega
    rcases this with rfl | rfl | rfl | rfl | rfl | rfl <;> rfl
  have a2 : ends st' = false := by
    have : st' = 0 ∨ st' = 1 ∨ st' = 2 ∨ st' = 3 ∨ st' = 4 ∨ st' = 5 := by omega
    rcases this with rfl | rfl | rfl | rfl | rfl | rfl <;> rfl
  have b1 : ¬ (st' = 6 ∨ st' = 7 ∨ st' = 8 ∨ st' = 17) := by omega
  have b2 : ¬ (st' = 9 ∨ st' = 12 ∨ st' = 14 ∨ st' = 15) := by omega
  simp only [feed, a1, a2, Bool.false_eq_true, if_false, feedA, b1, b2, hb, if_true]
/-- Blanks from i to j, and no further. -/
def Skp (f : Nat → Nat) (n i j : Nat) : Prop := i ≤ j ∧ j ≤ n ∧ (∀ k, i ≤ k → k < j → isB (f k) = true) ∧ (j < n → isB (f j) = false)
theorem b_skip {i : Nat} (hs : st ≤ 5) (h : Cv f n o st S T nm i) (k : Skp f n i j) : Cv f n o st S T nm j := by
  obtain ⟨h1, h2, h3, _⟩ := k
  have : ∀ d, i + d ≤ j → Cv f n o st S T nm (i + d) := by
    intro d
    induction d with
    | zero => intro _; exact h
    | succ d ih => intro hd; exact b_one (j := i + d) (ih (by omega)) hs (by omega) (h3 (i + d) (by omega) (by omega))
  have := this (j - i) (by omega)
  rwa [show i + (j - i) = j by omega] at this

/-! Strings. -/
theorem t_open (h : Cv f n o st S T false j) (hs : st = 0 ∨ st = 1) (hj : j < n) (hc : f j = 34) : Cur f n o 6 S T false j (j + 1) := by
  obtain ⟨_, ⟨st', S', fr', nm', left, cnt, T'⟩, h1, h2, h3, h4, h5, h6⟩ := h
  simp only at h1 h2 h3 h4 h5
  subst h1 h2 h3 h4 h5
  refine ⟨_, rfl, rfl, rfl, rfl, rfl, h6.trans (out_ok (M' := ⟨6, S', j, false, left, cnt, T'⟩) hj ?_)⟩
  rcases hs with rfl | rfl <;> simp [feed, numb, ends, feedA, isB, begin', hc]
theorem t_name (h : Cv f n o st S T nm j) (hs : st = 2 ∨ st = 3) (hj : j < n) (hc : f j = 34) : Cur f n o 6 S T true j (j + 1) := by
  obtain ⟨_, ⟨st', S', fr', nm', left, cnt, T'⟩, h1, h2, h3, h4, h5, h6⟩ := h
  simp only at h1 h2 h3 h4 h5
  subst h1 h2 h3 h4 h5
  refine ⟨_, rfl, rfl, rfl, rfl, rfl, h6.trans (out_ok (M' := ⟨6, S', j, true, left, cnt, T'⟩) hj ?_)⟩
  rcases hs with rfl | rfl <;> simp [feed, numb, ends, feedA, isB, hc]
theorem name_bad (h : Cv f n o st S T nm j) (hs : st = 2 ∨ st = 3) (hj : j < n) (hb : isB (f j) = false) (hc : f j ≠ 34) (h2 : st = 2 → f j ≠ 125) : o = ([], j, 5) := by
  obtain ⟨_, ⟨st', S', fr', nm', left, cnt, T'⟩, e1, e2, e3, e4, e5, e6⟩ := h
  simp only at e1 e2 e3 e4 e5
  subst e1 e2 e3 e4 e5
  refine e6.trans (out_no (M' := ⟨st', S', fr', nm', left, cnt, T'⟩) hj ?_ (by decide))
  rcases hs with rfl | rfl
  · have := h2 rfl
    simp [feed, numb, ends, feedA, hb, hc, this]
  · simp [feed, numb, ends, feedA, hb, hc]
theorem t_plain (h : Cur f n o 6 S T nm fr j) (hj : j < n) (h1 : 32 ≤ f j) (h2 : f j ≠ 34) (h3 : f j ≠ 92) : Cur f n o 6 S T nm fr (j + 1) := by
  obtain ⟨⟨st', S', fr', nm', left, cnt, T'⟩, e1, e2, e3, e4, e5, e6⟩ := h
  simp only at e1 e2 e3 e4 e5
  subst e1 e2 e3 e4 e5
  refine ⟨_, rfl, rfl, rfl, rfl, rfl, e6.trans (out_ok (M' := ⟨6, S', fr', nm', left, cnt, T'⟩) hj ?_)⟩
  have : ¬ f j < 32 := by omega
  simp [feed, numb, ends, feedA, inside, h2, h3, this]
theorem t_low (h : Cur f n o 6 S T nm fr j) (hj : j < n) (h1 : f j < 32) : o = ([], j, 5) := by
  obtain ⟨⟨st', S', fr', nm', left, cnt, T'⟩, e1, e2, e3, e4, e5, e6⟩ := h
  simp only at e1 e2 e3 e4 e5
  subst e1 e2 e3 e4 e5
  refine e6.trans (out_no (M' := ⟨6, S', fr', nm', left, cnt, T'⟩) hj ?_ (by decide))
  simp [feed, numb, ends, feedA, inside, h1]
theorem t_close (h : Cur f n o 6 S T nm fr j) (hj : j < n) (h1 : f j = 34) : Cv f n o (if nm then 4 else 5) S (T ++ [(5, fr, j + 1 - fr)]) false (j + 1) := by
  obtain ⟨⟨st', S', fr', nm', left, cnt, T'⟩, e1, e2, e3, e4, e5, e6⟩ := h
  simp only at e1 e2 e3 e4 e5
  subst e1 e2 e3 e4 e5
  refine ⟨_, ⟨if nm' then 4 else 5, S', fr', false, left, cnt, T' ++ [(5, fr', j + 1 - fr')]⟩, rfl, rfl, rfl, rfl, rfl, e6.trans (out_ok hj ?_)⟩
  simp [feed, numb, ends, feedA, inside, h1, atom]
theorem t_esc (h : Cur f n o 6 S T nm fr j) (hj : j < n) (h1 : f j = 92) : Cur f n o 7 S T nm fr (j + 1) := by
  obtain ⟨⟨st', S', fr', nm', left, cnt, T'⟩, e1, e2, e3, e4, e5, e6⟩ := h
  simp only at e1 e2 e3 e4 e5
  subst e1 e2 e3 e4 e5
  refine ⟨_, rfl, rfl, rfl, rfl, rfl, e6.trans (out_ok (M' := ⟨7, S', fr', nm', left, cnt, T'⟩) hj ?_)⟩
  simp [feed, numb, ends, feedA, inside, h1]
theorem e_u (h : Cur f n o 7 S T nm fr j) (hj : j < n) (h1 : f j = 117) : CurH f n o 4 S T nm fr (j + 1) := by
  obtain ⟨⟨st', S', fr', nm', left, cnt, T'⟩, e1, e2, e3, e4, e5, e6⟩ := h
  simp only at e1 e2 e3 e4 e5
  subst e1 e2 e3 e4 e5
  refine ⟨_, rfl, rfl, rfl, rfl, rfl, rfl, e6.trans (out_ok (M' := ⟨8, S', fr', nm', left, 4, T'⟩) hj ?_)⟩
  simp [feed, numb, ends, feedA, inside, h1]
theorem e_one (h : Cur f n o 7 S T nm fr j) (hj : j < n) (h1 : isE (f j) = true) : Cur f n o 6 S T nm fr (j + 1) := by
  obtain ⟨⟨st', S', fr', nm', left, cnt, T'⟩, e1, e2, e3, e4, e5, e6⟩ := h
  simp only at e1 e2 e3 e4 e5
  subst e1 e2 e3 e4 e5
  refine ⟨_, rfl, rfl, rfl, rfl, rfl, e6.trans (out_ok (M' := ⟨6, S', fr', nm', left, cnt, T'⟩) hj ?_)⟩
  have : ¬ f j = 117 := by intro e; rw [e] at h1; simp [isE] at h1
  simp [feed, numb, ends, feedA, inside, h1, this]
theorem e_bad (h : Cur f n o 7 S T nm fr j) (hj : j < n) (h1 : isE (f j) = false) (h2 : f j ≠ 117) : o = ([], j, 5) := by
  obtain ⟨⟨st', S', fr', nm', left, cnt, T'⟩, e1, e2, e3, e4, e5, e6⟩ := h
  simp only at e1 e2 e3 e4 e5
  subst e1 e2 e3 e4 e5
  refine e6.trans (out_no (M' := ⟨6, S', fr', nm', left, cnt, T'⟩) hj ?_ (by decide))
  simp [feed, numb, ends, feedA, inside, h1, h2]
theorem h_one {k : Nat} (h : CurH f n o (k + 2) S T nm fr j) (hj : j < n) (h1 : isH (f j) = true) : CurH f n o (k + 1) S T nm fr (j + 1) := by
  obtain ⟨⟨st', S', fr', nm', left, cnt, T'⟩, e1, e0, e2, e3, e4, e5, e6⟩ := h
  simp only at e0 e1 e2 e3 e4 e5
  subst e0 e1 e2 e3 e4 e5
  refine ⟨_, rfl, rfl, rfl, rfl, rfl, rfl, e6.trans (out_ok (M' := ⟨8, S', fr', nm', left, k + 1, T'⟩) hj ?_)⟩
  simp [feed, numb, ends, feedA, inside, h1]
theorem h_last (h : CurH f n o 1 S T nm fr j) (hj : j < n) (h1 : isH (f j) = true) : Cur f n o 6 S T nm fr (j + 1) := by
  obtain ⟨⟨st', S', fr', nm', left, cnt, T'⟩, e1, e0, e2, e3, e4, e5, e6⟩ := h
  simp only at e0 e1 e2 e3 e4 e5
  subst e0 e1 e2 e3 e4 e5
  refine ⟨_, rfl, rfl, rfl, rfl, rfl, e6.trans (out_ok (M' := ⟨6, S', fr', nm', left, 0, T'⟩) hj ?_)⟩
  simp [feed, numb, ends, feedA, inside, h1]
theorem h_bad {k : Nat} (h : CurH f n o k S T nm fr j) (hj : j < n) (h1 : isH (f j) = false) : o = ([], j, 5) := by
  obtain ⟨⟨st', S', fr', nm', left, cnt, T'⟩, e1, e0, e2, e3, e4, e5, e6⟩ := h
  simp only at e0 e1 e2 e3 e4 e5
  subst e0 e1 e2 e3 e4 e5
  refine e6.trans (out_no (M' := ⟨8, S', fr', nm', left, cnt, T'⟩) hj ?_ (by decide))
  simp [feed, numb, ends, feedA, inside, h1]
theorem h_end {k : Nat} (h : CurH f n o k S T nm fr n) : o = ([], n, 5) := by
  obtain ⟨⟨st', S', fr', nm', left, cnt, T'⟩, e1, e0, e2, e3, e4, e5, e6⟩ := h
  simp only at e0 e1 e2 e3 e4 e5
  subst e1
  rw [e6, out_end]
  rfl

/-! Words. -/
theorem w_t (h : Cv f n o st S T false j) (hs : st = 0 ∨ st = 1) (hj : j < n) (hc : f j = 116) : CurW f n o [114, 117, 101] S T j (j + 1) := by
  obtain ⟨_, ⟨st', S', fr', nm', left, cnt, T'⟩, h1, h2, h3, h4, h5, h6⟩ := h
  simp only at h1 h2 h3 h4 h5
  subst h1 h2 h3 h4 h5
  refine ⟨_, rfl, rfl, rfl, rfl, rfl, rfl, h6.trans (out_ok (M' := ⟨17, S', j, false, [114, 117, 101], cnt, T'⟩) hj ?_)⟩
  rcases hs with rfl | rfl <;> simp [feed, numb, ends, feedA, isB, begin', hc, isD]
theorem w_f (h : Cv f n o st S T false j) (hs : st = 0 ∨ st = 1) (hj : j < n) (hc : f j = 102) : CurW f n o [97, 108, 115, 101] S T j (j + 1) := by
  obtain ⟨_, ⟨st', S', fr', nm', left, cnt, T'⟩, h1, h2, h3, h4, h5, h6⟩ := h
  simp only at h1 h2 h3 h4 h5
  subst h1 h2 h3 h4 h5
  refine ⟨_, rfl, rfl, rfl, rfl, rfl, rfl, h6.trans (out_ok (M' := ⟨17, S', j, false, [97, 108, 115, 101], cnt, T'⟩) hj ?_)⟩
  rcases hs with rfl | rfl <;> simp [feed, numb, ends, feedA, isB, begin', hc, isD]
theorem w_n (h : Cv f n o st S T false j) (hs : st = 0 ∨ st = 1) (hj : j < n) (hc : f j = 110) : CurW f n o [117, 108, 108] S T j (j + 1) := by
  obtain ⟨_, ⟨st', S', fr', nm', left, cnt, T'⟩, h1, h2, h3, h4, h5, h6⟩ := h
  simp only at h1 h2 h3 h4 h5
  subst h1 h2 h3 h4 h5
  refine ⟨_, rfl, rfl, rfl, rfl, rfl, rfl, h6.trans (out_ok (M' := ⟨17, S', j, false, [117, 108, 108], cnt, T'⟩) hj ?_)⟩
  rcases hs with rfl | rfl <;> simp [feed, numb, ends, feedA, isB, begin', hc, isD]
theorem w_one {a b : Nat} {r : List Nat} (h : CurW f n o (a :: b :: r) S T fr j) (hj : j < n) (hc : f j = a) : CurW f n o (b :: r) S T fr (j + 1) := by
  obtain ⟨⟨st', S', fr', nm', left, cnt, T'⟩, e1, e0, e2, e3, e4, e5, e6⟩ := h
  simp only at e0 e1 e2 e3 e4 e5
  subst e0 e1 e2 e3 e4 e5
  refine ⟨_, rfl, rfl, rfl, rfl, rfl, rfl, e6.trans (out_ok (M' := ⟨17, S', fr', false, b :: r, cnt, T'⟩) hj ?_)⟩
  simp [feed, numb, ends, feedA, inside, hc]
theorem w_last {a : Nat} (h : CurW f n o [a] S T fr j) (hj : j < n) (hc : f j = a) : Cv f n o 5 S (T ++ [(5, fr, j + 1 - fr)]) false (j + 1) := by
  obtain ⟨⟨st', S', fr', nm', left, cnt, T'⟩, e1, e0, e2, e3, e4, e5, e6⟩ := h
  simp only at e0 e1 e2 e3 e4 e5
  subst e0 e1 e2 e3 e4 e5
  refine ⟨_, ⟨5, S', fr', false, [], cnt, T' ++ [(5, fr', j + 1 - fr')]⟩, rfl, rfl, rfl, rfl, rfl, e6.trans (out_ok hj ?_)⟩
  simp [feed, numb, ends, feedA, inside, hc, atom]
theorem w_bad {a : Nat} {r : List Nat} (h : CurW f n o (a :: r) S T fr j) (hj : j < n) (hc : f j ≠ a) : o = ([], j, 5) := by
  obtain ⟨⟨st', S', fr', nm', left, cnt, T'⟩, e1, e0, e2, e3, e4, e5, e6⟩ := h
  simp only at e0 e1 e2 e3 e4 e5
  subst e0 e1 e2 e3 e4 e5
  refine e6.trans (out_no (M' := ⟨17, S', fr', false, a :: r, cnt, T'⟩) hj ?_ (by decide))
  simp [feed, numb, ends, feedA, inside, hc]
theorem w_end {r : List Nat} (h : CurW f n o r S T fr n) : o = ([], n, 5) := by
  obtain ⟨⟨st', S', fr', nm', left, cnt, T'⟩, e1, e0, e2, e3, e4, e5, e6⟩ := h
  simp only at e0 e1 e2 e3 e4 e5
  subst e1
  rw [e6, out_end]
  rfl

/-! Lists and objects. -/
theorem l_open (h : Cv f n o st S T nm j) (hs : st = 0 ∨ st = 1) (hj : j < n) (hc : f j = 91 ∨ f j = 123) (hd : S.length ≠ 512) : Cv f n o (if f j = 123 then 2 else 1) (f j :: S) (T ++ [(1, j, 1)]) nm (j + 1) := by
  obtain ⟨_, ⟨st', S', fr', nm', left, cnt, T'⟩, h1, h2, h3, h4, h5, h6⟩ := h
  simp only at h1 h2 h3 h4 h5
  subst h1 h2 h3 h4 h5
  refine ⟨_, ⟨if f j = 123 then 2 else 1, f j :: S', j, nm', left, cnt, T' ++ [(1, j, 1)]⟩, rfl, rfl, rfl, rfl, rfl, h6.trans (out_ok hj ?_)⟩
  rcases hc with hc | hc <;> rcases hs with rfl | rfl <;> simp [feed, numb, ends, feedA, isB, begin', hc, hd]
theorem l_deep (h : Cv f n o st S T nm j) (hs : st = 0 ∨ st = 1) (hj : j < n) (hc : f j = 91 ∨ f j = 123) (hd : S.length = 512) : o = ([], j, 6) := by
  obtain ⟨_, ⟨st', S', fr', nm', left, cnt, T'⟩, h1, h2, h3, h4, h5, h6⟩ := h
  simp only at h1 h2 h3 h4 h5
  subst h1 h2 h3 h4 h5
  refine h6.trans (out_no (M' := ⟨st', S', j, nm', left, cnt, T'⟩) hj ?_ (by decide))
  rcases hc with hc | hc <;> rcases hs with rfl | rfl <;> simp [feed, numb, ends, feedA, isB, begin', hc, hd]
theorem l_close {b : Nat} (h : Cv f n o st (b :: S) T nm j) (hs : st = 5 ∨ st = 1 ∧ b = 91 ∨ st = 2 ∧ b = 123) (hj : j < n) (hb : b = 91 ∧ f j = 93 ∨ b = 123 ∧ f j = 125) : Cv f n o 5 S (T ++ [(2, j, 1)]) nm (j + 1) := by
  obtain ⟨_, ⟨st', S', fr', nm', left, cnt, T'⟩, h1, h2, h3, h4, h5, h6⟩ := h
  simp only at h1 h2 h3 h4 h5
  subst h1 h2 h3 h4 h5
  refine ⟨_, ⟨5, S, fr', nm', left, cnt, T' ++ [(2, j, 1)]⟩, rfl, rfl, rfl, rfl, rfl, h6.trans (out_ok hj ?_)⟩
  rcases hb with ⟨rfl, hc⟩ | ⟨rfl, hc⟩
  · rcases hs with rfl | ⟨rfl, _⟩ | ⟨rfl, h⟩
    · simp [feed, numb, ends, feedA, isB, next, hc, one]
    · simp [feed, numb, ends, feedA, isB, next, hc, one]
    · simp at h
  · rcases hs with rfl | ⟨rfl, h⟩ | ⟨rfl, _⟩
    · simp [feed, numb, ends, feedA, isB, next, hc, one]
    · simp at h
    · simp [feed, numb, ends, feedA, isB, next, hc, one]
theorem l_comma {b : Nat} (h : Cv f n o 5 (b :: S) T nm j) (hj : j < n) (hc : f j = 44) : Cv f n o (if b = 91 then 0 else 3) (b :: S) (T ++ [(3, j, 1)]) nm (j + 1) := by
  obtain ⟨_, ⟨st', S', fr', nm', left, cnt, T'⟩, h1, h2, h3, h4, h5, h6⟩ := h
  simp only at h1 h2 h3 h4 h5
  subst h1 h2 h3 h4 h5
  refine ⟨_, ⟨if b = 91 then 0 else 3, b :: S, fr', nm', left, cnt, T' ++ [(3, j, 1)]⟩, rfl, rfl, rfl, rfl, rfl, h6.trans (out_ok hj ?_)⟩
  by_cases hb : b = 91
  · simp [feed, numb, ends, feedA, isB, next, hc, one, hb]
  · simp [feed, numb, ends, feedA, isB, next, hc, one, hb]
theorem l_bad {b : Nat} (h : Cv f n o 5 (b :: S) T nm j) (hj : j < n) (hB : isB (f j) = false) (h1 : f j ≠ 44) (h2 : b = 91 ∧ f j ≠ 93 ∨ b = 123 ∧ f j ≠ 125) : o = ([], j, 5) := by
  obtain ⟨_, ⟨st', S', fr', nm', left, cnt, T'⟩, e1, e2, e3, e4, e5, e6⟩ := h
  simp only at e1 e2 e3 e4 e5
  subst e1 e2 e3 e4 e5
  refine e6.trans (out_no (M' := ⟨5, b :: S, fr', nm', left, cnt, T'⟩) hj ?_ (by decide))
  rcases h2 with ⟨rfl, h2⟩ | ⟨rfl, h2⟩ <;> simp [feed, numb, ends, feedA, hB, next, h1, h2]
theorem l_end {b : Nat} (h : Cv f n o 5 (b :: S) T nm n) : o = ([], n, 5) := by
  obtain ⟨_, ⟨st', S', fr', nm', left, cnt, T'⟩, e1, e2, e3, e4, e5, e6⟩ := h
  simp only at e1 e2 e3 e4 e5
  subst e1 e2
  rw [e6, out_end]
  simp [fin', finA, ends]
theorem c_colon (h : Cv f n o 4 S T nm j) (hj : j < n) (hc : f j = 58) : Cv f n o 0 S (T ++ [(4, j, 1)]) nm (j + 1) := by
  obtain ⟨_, ⟨st', S', fr', nm', left, cnt, T'⟩, h1, h2, h3, h4, h5, h6⟩ := h
  simp only at h1 h2 h3 h4 h5
  subst h1 h2 h3 h4 h5
  refine ⟨_, ⟨0, S', fr', nm', left, cnt, T' ++ [(4, j, 1)]⟩, rfl, rfl, rfl, rfl, rfl, h6.trans (out_ok hj ?_)⟩
  simp [feed, numb, ends, feedA, isB, hc, one]
theorem c_bad (h : Cv f n o 4 S T nm j) (hj : j < n) (hb : isB (f j) = false) (hc : f j ≠ 58) : o = ([], j, 5) := by
  obtain ⟨_, ⟨st', S', fr', nm', left, cnt, T'⟩, h1, h2, h3, h4, h5, h6⟩ := h
  simp only at h1 h2 h3 h4 h5
  subst h1 h2 h3 h4 h5
  refine h6.trans (out_no (M' := ⟨4, S', fr', nm', left, cnt, T'⟩) hj ?_ (by decide))
  simp [feed, numb, ends, feedA, hb, hc]
theorem top_ok (h : Cv f n o 5 [] T nm n) : o = (T, 0, 0) := by
  obtain ⟨_, ⟨st', S', fr', nm', left, cnt, T'⟩, e1, e2, e3, e4, e5, e6⟩ := h
  simp only at e1 e2 e3 e4 e5
  subst e1 e2 e3
  rw [e6, out_end]
  simp [fin', finA, ends]
theorem top_bad (h : Cv f n o 5 [] T nm j) (hj : j < n) (hb : isB (f j) = false) : o = ([], j, 5) := by
  obtain ⟨_, ⟨st', S', fr', nm', left, cnt, T'⟩, e1, e2, e3, e4, e5, e6⟩ := h
  simp only at e1 e2 e3 e4 e5
  subst e1 e2 e3 e4 e5
  refine e6.trans (out_no (M' := ⟨5, [], fr', nm', left, cnt, T'⟩) hj ?_ (by decide))
  simp [feed, numb, ends, feedA, hb, next]
theorem Cur.cv (h : Cur f n o st S T nm fr j) : Cv f n o st S T nm j := ⟨_, h⟩
end
theorem start (f : Nat → Nat) (n : Nat) : Cv f n (ans f n) 0 [] [] false 0 := ⟨0, M0, rfl, rfl, rfl, rfl, rfl, rfl⟩
end Go.Proofs.PlatenJson
