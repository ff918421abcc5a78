/- Plain arithmetic: where signs begin in n bytes (byte i is f i), how many there are, the sign that ends at a place. No program is spoken of here. -/
import Derived.Test.YtaefnlknendapaaMath
namespace Go.Proofs.PlatenGlyph
set_option linter.unusedVariables false

def szAt (f : Nat → Nat) (n i : Nat) : Nat := if i < n then sz (n - i) (f i) (f (i + 1)) (f (i + 2)) (f (i + 3)) else 0

theorem szAt_in {f : Nat → Nat} {n i : Nat} (h : i < n) : szAt f n i = sz (n - i) (f i) (f (i + 1)) (f (i + 2)) (f (i + 3)) := by
  unfold szAt; rw [if_pos h]
theorem szAt_out {f : Nat → Nat} {n i : Nat} (h : ¬ i < n) : szAt f n i = 0 := by
  unfold szAt; rw [if_neg h]
theorem szAt_pos {f : Nat → Nat} {n i : Nat} (h : i < n) : 1 ≤ szAt f n i := by
  rw [szAt_in h]; exact (sz_pos _ _ _ _ _).1
theorem szAt_le4 (f : Nat → Nat) (n i : Nat) : szAt f n i ≤ 4 := by
  unfold szAt; split
  · exact (sz_pos _ _ _ _ _).2
  · omega
theorem szAt_le (f : Nat → Nat) (n i : Nat) (hi : i ≤ n) : i + szAt f n i ≤ n := by
  unfold szAt; split
  · have := sz_le (n - i) (f i) (f (i + 1)) (f (i + 2)) (f (i + 3)) (by omega); omega
  · omega

/-- The bytes of a sign behind its first one go on with it. -/
theorem szAt_inner {f : Nat → Nat} {n i j : Nat} (h1 : i < j) (h2 : j < i + szAt f n i) : 128 ≤ f j ∧ f j ≤ 191 := by
  have hi : i < n := by
    by_cases h : i < n
    · exact h
    · rw [szAt_out h] at h2; omega
  rw [szAt_in hi] at h2
  have hne : sz (n - i) (f i) (f (i + 1)) (f (i + 2)) (f (i + 3)) ≠ 1 := by omega
  obtain ⟨e, a, b, c, d, g⟩ := sz_many hne
  have hc := lead_cases (f i)
  have hl := low_ge (f i)
  have hh := high_le (f i)
  have : j = i + 1 ∨ j = i + 2 ∨ j = i + 3 := by omega
  rcases this with rfl | rfl | rfl
  · omega
  · exact d (by omega)
  · exact g (by omega)

/-- A sign of several bytes begins with none of those. -/
theorem szAt_head {f : Nat → Nat} {n i : Nat} (h : 2 ≤ szAt f n i) : 194 ≤ f i := by
  have hi : i < n := by
    by_cases h' : i < n
    · exact h'
    · rw [szAt_out h'] at h; omega
  rw [szAt_in hi] at h
  have hne : sz (n - i) (f i) (f (i + 1)) (f (i + 2)) (f (i + 3)) ≠ 1 := by omega
  exact (lead_ge (sz_many hne).2.1).1

theorem szAt_less {f : Nat → Nat} {n m i : Nat} (hm : m ≤ n) (h : i < m) (hs : i + szAt f n i ≤ m) : szAt f m i = szAt f n i := by
  rw [szAt_in (show i < n by omega)] at hs ⊢
  rw [szAt_in h]
  exact sz_less (c1 := 0) (c2 := 0) (c3 := 0) (by omega) (by omega)

theorem szAt_more {f : Nat → Nat} {n m i : Nat} (hm : m ≤ n) (h : i < m) (hs : 2 ≤ szAt f m i) : szAt f n i = szAt f m i := by
  rw [szAt_in h] at hs ⊢
  rw [szAt_in (show i < n by omega)]
  have hne : sz (m - i) (f i) (f (i + 1)) (f (i + 2)) (f (i + 3)) ≠ 1 := by omega
  obtain ⟨e, a, b, c, d, g⟩ := sz_many hne
  rw [e]
  exact sz_of a (by omega) c d g

theorem szAt_cut {f : Nat → Nat} {n m i : Nat} (h : i < m) (hm : m ≤ n) (hs : m < i + szAt f n i) : szAt f m i = 1 := by
  rw [szAt_in (show i < n by omega)] at hs
  rw [szAt_in h]
  exact sz_cut (n := n - i) (by omega) (by omega)

theorem szAt_cont {f : Nat → Nat} {n i : Nat} (h : i < n) (hc : f i < 194) : szAt f n i = 1 := by
  rw [szAt_in h]; exact sz_low hc

theorem szAt_shift (f : Nat → Nat) (n k i : Nat) (hk : k ≤ n) : szAt (fun j => f (k + j)) (n - k) i = szAt f n (k + i) := by
  unfold szAt
  have e : (n - k - i) = n - (k + i) := by omega
  by_cases h : i < n - k
  · rw [if_pos h, if_pos (by omega), e]
    simp only [Nat.add_assoc]
  · rw [if_neg h, if_neg (by omega)]

theorem szAt_congr {f g : Nat → Nat} {n i : Nat} (h : ∀ j, j < n → f j = g j) : szAt f n i = szAt g n i := by
  unfold szAt
  split
  · rw [h i (by omega)]
    exact sz_congr (fun _ => h _ (by omega)) (fun _ => h _ (by omega)) (fun _ => h _ (by omega))
  · rfl

/-- Where the k-th sign begins; the end, if there are no more. -/
def nth (f : Nat → Nat) (n : Nat) : Nat → Nat
  | 0 => 0
  | k + 1 => nth f n k + szAt f n (nth f n k)

theorem nth_le (f : Nat → Nat) (n : Nat) : ∀ k, nth f n k ≤ n
  | 0 => Nat.zero_le _
  | k + 1 => szAt_le f n _ (nth_le f n k)

theorem nth_lt {f : Nat → Nat} {n k : Nat} (h : nth f n k < n) : nth f n k < nth f n (k + 1) := by
  have := szAt_pos (f := f) h
  show _ < nth f n k + szAt f n (nth f n k)
  omega

theorem nth_end {f : Nat → Nat} {n k : Nat} (h : nth f n k = n) : nth f n (k + 1) = n := by
  show nth f n k + szAt f n (nth f n k) = n
  rw [szAt_out (by omega)]; omega

theorem nth_succ_le (f : Nat → Nat) (n k : Nat) : nth f n k ≤ nth f n (k + 1) := Nat.le_add_right _ _

theorem nth_mono (f : Nat → Nat) (n : Nat) {j k : Nat} (h : j ≤ k) : nth f n j ≤ nth f n k := by
  induction k with
  | zero => have : j = 0 := by omega
            subst this; exact Nat.le_refl _
  | succ k ih =>
    by_cases e : j = k + 1
    · subst e; exact Nat.le_refl _
    · exact Nat.le_trans (ih (by omega)) (nth_succ_le f n k)

theorem nth_strict {f : Nat → Nat} {n j k : Nat} (h : j < k) (hn : nth f n j < n) : nth f n j < nth f n k :=
  Nat.lt_of_lt_of_le (nth_lt hn) (nth_mono f n h)

theorem nth_ge {f : Nat → Nat} {n : Nat} : ∀ {k}, nth f n k < n → k ≤ nth f n k
  | 0, _ => Nat.zero_le _
  | k + 1, h => by
    have hk : nth f n k < n := by have := nth_succ_le f n k; omega
    have := nth_ge hk
    have := nth_lt hk
    omega

theorem nth_all (f : Nat → Nat) (n : Nat) : nth f n n = n := by
  by_cases h : nth f n n < n
  · have := nth_ge h; omega
  · have := nth_le f n n; omega

/-- Each byte is in one sign. -/
theorem nth_cover (f : Nat → Nat) (n i : Nat) (hi : i < n) : ∃ k, nth f n k ≤ i ∧ i < nth f n (k + 1) := by
  have : ∀ m, i < nth f n m → ∃ k, nth f n k ≤ i ∧ i < nth f n (k + 1) := by
    intro m
    induction m with
    | zero => intro h; exact absurd h (Nat.not_lt_zero _)
    | succ m ih =>
      intro h
      by_cases h' : i < nth f n m
      · exact ih h'
      · exact ⟨m, by omega, h⟩
  exact this n (by rw [nth_all]; exact hi)

theorem nth_inner {f : Nat → Nat} {n k i : Nat} (h1 : nth f n k < i) (h2 : i < nth f n (k + 1)) : 128 ≤ f i ∧ f i ≤ 191 :=
  szAt_inner h1 h2

/-- A byte that goes on with nothing begins a sign. -/
theorem nth_start {f : Nat → Nat} {n i : Nat} (hi : i < n) (h : ¬ (128 ≤ f i ∧ f i ≤ 191)) : ∃ k, nth f n k = i := by
  obtain ⟨k, h1, h2⟩ := nth_cover f n i hi
  by_cases e : nth f n k = i
  · exact ⟨k, e⟩
  · exact absurd (nth_inner (by omega) h2) h

/-- Between two signs' beginnings there is none. -/
theorem nth_gap {f : Nat → Nat} {n j k : Nat} (h1 : nth f n k < nth f n j) : nth f n (k + 1) ≤ nth f n j := by
  by_cases h : k < j
  · exact nth_mono f n h
  · have := nth_mono f n (show j ≤ k by omega); omega

/-- How many signs there are. -/
def cntFrom (f : Nat → Nat) (n : Nat) : Nat → Nat → Nat
  | 0, _ => 0
  | b + 1, i => if i < n then 1 + cntFrom f n b (i + szAt f n i) else 0
def cnt (f : Nat → Nat) (n : Nat) : Nat := cntFrom f n n 0

theorem cntFrom_nth (f : Nat → Nat) (n : Nat) : ∀ b k, n ≤ nth f n k + b → nth f n (k + cntFrom f n b (nth f n k)) = n ∧ ∀ j, j < k + cntFrom f n b (nth f n k) → k ≤ j → nth f n j < n
  | 0, k, h => by
    have := nth_le f n k
    refine ⟨by simp only [cntFrom, Nat.add_zero]; omega, fun j h1 h2 => ?_⟩
    simp only [cntFrom] at h1; omega
  | b + 1, k, h => by
    by_cases hk : nth f n k < n
    · have hp := szAt_pos (f := f) hk
      have ih := cntFrom_nth f n b (k + 1) (by show n ≤ nth f n k + szAt f n (nth f n k) + b; omega)
      have e : cntFrom f n (b + 1) (nth f n k) = 1 + cntFrom f n b (nth f n (k + 1)) := by
        simp only [cntFrom, if_pos hk]; rfl
      rw [e, ← Nat.add_assoc]
      refine ⟨ih.1, fun j h1 h2 => ?_⟩
      by_cases ej : j = k
      · subst ej; exact hk
      · exact ih.2 j h1 (by omega)
    · have e : cntFrom f n (b + 1) (nth f n k) = 0 := by simp only [cntFrom, if_neg hk]
      rw [e]
      have := nth_le f n k
      exact ⟨by rw [Nat.add_zero]; omega, fun j h1 h2 => by omega⟩

theorem cnt_end (f : Nat → Nat) (n : Nat) : nth f n (cnt f n) = n := by
  have := (cntFrom_nth f n n 0 (by omega)).1
  rwa [Nat.zero_add] at this
theorem cnt_lt {f : Nat → Nat} {n j : Nat} (h : j < cnt f n) : nth f n j < n := by
  have := (cntFrom_nth f n n 0 (by omega)).2 j (by rw [Nat.zero_add]; exact h) (Nat.zero_le _)
  exact this
theorem cnt_iff (f : Nat → Nat) (n j : Nat) : nth f n j < n ↔ j < cnt f n := by
  refine ⟨fun h => ?_, cnt_lt⟩
  by_cases h' : j < cnt f n
  · exact h'
  · have := nth_mono f n (show cnt f n ≤ j by omega)
    rw [cnt_end] at this; omega
/-- It is told by where it ends. -/
theorem cnt_eq {f : Nat → Nat} {n c : Nat} (h : nth f n c = n) (h' : ∀ j, j < c → nth f n j < n) : cnt f n = c := by
  by_cases h1 : cnt f n < c
  · have := h' _ h1; rw [cnt_end] at this; omega
  · by_cases h2 : c < cnt f n
    · have := cnt_lt h2; omega
    · omega
theorem cnt_le (f : Nat → Nat) (n : Nat) : cnt f n ≤ n := by
  by_cases h : cnt f n ≤ n
  · exact h
  · have := cnt_lt (f := f) (n := n) (j := n) (by omega)
    rw [nth_all] at this; omega

/-- How many bytes the sign has that ends at e, of the bytes ahead of e. -/
def lastAt (f : Nat → Nat) (e : Nat) : Nat :=
  if e = 0 then 0 else if 2 ≤ e ∧ szAt f e (e - 2) = 2 then 2 else if 3 ≤ e ∧ szAt f e (e - 3) = 3 then 3 else if 4 ≤ e ∧ szAt f e (e - 4) = 4 then 4 else 1

/-- Back from where a sign ends one comes to where it begins. -/
theorem last_back {f : Nat → Nat} {n k : Nat} (h : nth f n k < n) : lastAt f (nth f n (k + 1)) = szAt f n (nth f n k) := by
  obtain ⟨e, he⟩ : ∃ e, nth f n (k + 1) = e := ⟨_, rfl⟩
  have hen : e ≤ n := by rw [← he]; exact nth_le _ _ _
  have hes : nth f n k + szAt f n (nth f n k) = e := he
  have hp := szAt_pos (f := f) h
  have h4 := szAt_le4 f n (nth f n k)
  -- a sign of m bytes that ends at e is the one that begins there
  have key : ∀ m, 2 ≤ m → m ≤ e → szAt f e (e - m) = m → szAt f n (nth f n k) = m := by
    intro m hm hme hs
    have hh : 194 ≤ f (e - m) := szAt_head (n := e) (by omega)
    obtain ⟨j, hj⟩ := nth_start (f := f) (n := n) (i := e - m) (by omega) (by omega)
    have hs' := szAt_more (f := f) (n := n) hen (show e - m < e by omega) (by omega)
    have hn : nth f n (j + 1) = e := by
      show nth f n j + szAt f n (nth f n j) = e
      rw [hj, hs', hs]; omega
    have e1 : nth f n j ≤ nth f n k := by
      by_cases c : nth f n j ≤ nth f n k
      · exact c
      · have := nth_gap (f := f) (n := n) (j := j) (k := k) (by omega); omega
    have e2 : nth f n k ≤ nth f n j := by
      by_cases c : nth f n k ≤ nth f n j
      · exact c
      · have := nth_gap (f := f) (n := n) (j := k) (k := j) (by omega); omega
    have : nth f n k = e - m := by omega
    omega
  rw [he]
  unfold lastAt
  rw [if_neg (by omega)]
  by_cases c2 : 2 ≤ e ∧ szAt f e (e - 2) = 2
  · rw [if_pos c2, key 2 (by omega) c2.1 c2.2]
  rw [if_neg c2]
  by_cases c3 : 3 ≤ e ∧ szAt f e (e - 3) = 3
  · rw [if_pos c3, key 3 (by omega) c3.1 c3.2]
  rw [if_neg c3]
  by_cases c4 : 4 ≤ e ∧ szAt f e (e - 4) = 4
  · rw [if_pos c4, key 4 (by omega) c4.1 c4.2]
  rw [if_neg c4]
  have hl := szAt_less (f := f) (n := n) (m := e) (i := nth f n k) hen (by omega) (by omega)
  have hx : e - szAt f n (nth f n k) = nth f n k := by omega
  have : szAt f n (nth f n k) = 1 ∨ szAt f n (nth f n k) = 2 ∨ szAt f n (nth f n k) = 3 ∨ szAt f n (nth f n k) = 4 := by omega
  rcases this with g | g | g | g
  · exact g.symm
  · rw [g] at hx hl; rw [hx] at c2; exact absurd ⟨by omega, hl⟩ c2
  · rw [g] at hx hl; rw [hx] at c3; exact absurd ⟨by omega, hl⟩ c3
  · rw [g] at hx hl; rw [hx] at c4; exact absurd ⟨by omega, hl⟩ c4

end Go.Proofs.PlatenGlyph
