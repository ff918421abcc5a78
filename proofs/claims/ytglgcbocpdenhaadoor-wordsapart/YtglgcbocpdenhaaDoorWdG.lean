/- Pieces without blanks and line ends; how many runs and such pieces there are; the places where words begin: plain mathematics. -/
import Derived.Test.YtglgcbocpdenhaaDoorWdM
namespace Go.Proofs.PlatenWords
set_option linter.unusedVariables false

/-- The last piece one byte longer. -/
def ext1 : List (Nat × Nat) → List (Nat × Nat)
  | [] => []
  | [p] => [(p.1, p.2 + 1)]
  | p :: q :: t => p :: ext1 (q :: t)
theorem ext1_snoc : ∀ (l : List (Nat × Nat)) (p : Nat × Nat), ext1 (l ++ [p]) = l ++ [(p.1, p.2 + 1)]
  | [], p => rfl
  | [q], p => rfl
  | q :: r :: t, p => by
    have := ext1_snoc (r :: t) p
    simp only [List.cons_append, ext1] at this ⊢
    rw [this]
def sol (f : Nat → Nat) : Nat → List (Nat × Nat)
  | 0 => []
  | k + 1 => if sld (f k) = true then (if k ≠ 0 ∧ sld (f (k - 1)) = true then ext1 (sol f k) else sol f k ++ [(k, 1)]) else sol f k
theorem sol_no {f : Nat → Nat} {k : Nat} (h : sld (f k) = false) : sol f (k + 1) = sol f k := by rw [sol, if_neg (by rw [h]; decide)]
theorem sol_new {f : Nat → Nat} {k : Nat} (h : sld (f k) = true) (h2 : k = 0 ∨ sld (f (k - 1)) = false) : sol f (k + 1) = sol f k ++ [(k, 1)] := by
  rw [sol, if_pos h, if_neg]
  rintro ⟨a, b⟩
  rcases h2 with h2 | h2
  · exact a h2
  · rw [h2] at b; cases b
theorem sol_on {f : Nat → Nat} {k : Nat} (h : sld (f (k + 1)) = true) (h2 : sld (f k) = true) : sol f (k + 1 + 1) = ext1 (sol f (k + 1)) := by
  rw [sol, if_pos h, if_pos ⟨by omega, by rw [Nat.add_sub_cancel]; exact h2⟩]
theorem sol_grow {f : Nat → Nat} {q : Nat} (h2 : q = 0 ∨ sld (f (q - 1)) = false) : ∀ m, (∀ j, q ≤ j → j < q + m + 1 → sld (f j) = true) → sol f (q + m + 1) = sol f q ++ [(q, m + 1)]
  | 0, h => sol_new (h q (Nat.le_refl _) (by omega)) h2
  | m + 1, h => by
    have ih := sol_grow h2 m (fun j a b => h j a (by omega))
    have e := sol_on (f := f) (k := q + m) (h (q + m + 1) (by omega) (by omega)) (h (q + m) (by omega) (by omega))
    rw [show q + (m + 1) + 1 = q + m + 1 + 1 by omega, e, ih, ext1_snoc]
theorem sol_run {f : Nat → Nat} {q m : Nat} (h2 : q = 0 ∨ sld (f (q - 1)) = false) (hm : 1 ≤ m) (h : ∀ j, q ≤ j → j < q + m → sld (f j) = true) : sol f (q + m) = sol f q ++ [(q, m)] := by
  obtain ⟨k, rfl⟩ : ∃ k, m = k + 1 := ⟨m - 1, by omega⟩
  exact sol_grow h2 k (fun j a b => h j a (by omega))
theorem sol_more {f : Nat → Nat} {q a N : Nat} {l : List (Nat × Nat)} (h0 : q ≠ 0) (h1 : sld (f (q - 1)) = true) (hs : sol f q = l ++ [(a, N)]) : ∀ m, (∀ j, q ≤ j → j < q + m → sld (f j) = true) → sol f (q + m) = l ++ [(a, N + m)]
  | 0, _ => hs
  | m + 1, h => by
    have ih := sol_more h0 h1 hs m (fun j x y => h j x (by omega))
    obtain ⟨k, hk⟩ : ∃ k, q + m = k + 1 := ⟨q + m - 1, by omega⟩
    have p1 : sld (f k) = true := by
      by_cases e : m = 0
      · rw [show k = q - 1 by omega]; exact h1
      · exact h k (by omega) (by omega)
    have p2 : sld (f (k + 1)) = true := h (k + 1) (by omega) (by omega)
    rw [show q + (m + 1) = k + 1 + 1 by omega, sol_on p2 p1, ← hk, ih, ext1_snoc]
    rfl
theorem sol_skip {f : Nat → Nat} {q : Nat} : ∀ m, (∀ j, q ≤ j → j < q + m → sld (f j) = false) → sol f (q + m) = sol f q
  | 0, _ => rfl
  | m + 1, h => by
    rw [show q + (m + 1) = q + m + 1 by omega, sol_no (h (q + m) (by omega) (by omega))]
    exact sol_skip m (fun j x y => h j x (by omega))
theorem sol_last {f : Nat → Nat} : ∀ {k : Nat}, sld (f k) = true → ∃ l a N, sol f (k + 1) = l ++ [(a, N)] ∧ a + N = k + 1 ∧ 1 ≤ N
  | 0, h => ⟨[], 0, 1, sol_new h (Or.inl rfl), rfl, Nat.le_refl _⟩
  | k + 1, h => by
    cases hb : sld (f k) with
    | false => exact ⟨_, k + 1, 1, sol_new h (Or.inr (by rw [Nat.add_sub_cancel]; exact hb)), rfl, Nat.le_refl _⟩
    | true =>
      obtain ⟨l, a, N, h1, h2, h3⟩ := sol_last hb
      refine ⟨l, a, N + 1, ?_, by omega, by omega⟩
      rw [sol_on h hb, h1, ext1_snoc]
theorem sol_len (f : Nat → Nat) : ∀ k, (sol f k).length ≤ k
  | 0 => Nat.le_refl _
  | k + 1 => by
    have ih := sol_len f k
    cases h : sld (f k) with
    | false => rw [sol_no h]; omega
    | true =>
      by_cases h2 : k = 0 ∨ sld (f (k - 1)) = false
      · rw [sol_new h h2]; simp; omega
      · obtain ⟨j, rfl⟩ : ∃ j, k = j + 1 := ⟨k - 1, by omega⟩
        have hb : sld (f j) = true := by
          cases hb : sld (f j) with
          | true => rfl
          | false => exact absurd (Or.inr (by rw [Nat.add_sub_cancel]; exact hb)) h2
        obtain ⟨l, a, N, e, _, _⟩ := sol_last hb
        rw [sol_on h hb, e, ext1_snoc]
        rw [e] at ih
        simp at ih ⊢
        omega
/-- How many bytes the pieces have. -/
def sumN : List (Nat × Nat) → Nat
  | [] => 0
  | p :: t => p.2 + sumN t
theorem sumN_app : ∀ (a b : List (Nat × Nat)), sumN (a ++ b) = sumN a + sumN b
  | [], b => by simp [sumN]
  | p :: t, b => by simp only [List.cons_append, sumN, sumN_app t b]; omega
/-- How many blanks and line ends there are. -/
def ns (f : Nat → Nat) : Nat → Nat
  | 0 => 0
  | k + 1 => ns f k + if sld (f k) = true then 0 else 1
theorem ns_le (f : Nat → Nat) : ∀ k, ns f k ≤ k
  | 0 => Nat.le_refl _
  | k + 1 => by have := ns_le f k; unfold ns; split <;> omega
theorem sum_ns (f : Nat → Nat) : ∀ k, sumN (sol f k) + ns f k = k
  | 0 => rfl
  | k + 1 => by
    have ih := sum_ns f k
    cases h : sld (f k) with
    | false => rw [sol_no h, ns, if_neg (by rw [h]; decide)]; omega
    | true =>
      rw [ns, if_pos h]
      by_cases h2 : k = 0 ∨ sld (f (k - 1)) = false
      · rw [sol_new h h2, sumN_app]; simp only [sumN]; omega
      · obtain ⟨j, rfl⟩ : ∃ j, k = j + 1 := ⟨k - 1, by omega⟩
        have hb : sld (f j) = true := by
          cases hb : sld (f j) with
          | true => rfl
          | false => exact absurd (Or.inr (by rw [Nat.add_sub_cancel]; exact hb)) h2
        obtain ⟨l, a, N, e, _, _⟩ := sol_last hb
        rw [sol_on h hb, e, ext1_snoc]
        rw [e] at ih
        rw [sumN_app] at ih ⊢
        simp only [sumN] at ih ⊢
        omega
theorem sumN_take_le (l : List (Nat × Nat)) (k : Nat) : sumN (l.take k) ≤ sumN l := by
  have := congrArg sumN (List.take_append_drop k l)
  rw [sumN_app] at this
  omega
theorem sumN_take_succ {l : List (Nat × Nat)} {k : Nat} (h : k < l.length) : sumN (l.take (k + 1)) = sumN (l.take k) + (l.getD k (0, 0)).2 := by
  rw [List.take_succ_eq_append_getElem h, sumN_app]
  simp [sumN, List.getD_eq_getElem?_getD, List.getElem?_eq_getElem h]

/-! How many runs, and how many pieces. -/
def cb (f : Nat → Nat) : Nat → Nat
  | 0 => 0
  | k + 1 => cb f k + if k = 0 ∨ cls (f (k - 1)) ≠ cls (f k) then 1 else 0
def cs (f : Nat → Nat) : Nat → Nat
  | 0 => 0
  | k + 1 => cs f k + if sld (f k) = true ∧ (k = 0 ∨ sld (f (k - 1)) = false) then 1 else 0
theorem sol_count (f : Nat → Nat) : ∀ k, (sol f k).length = cs f k
  | 0 => rfl
  | k + 1 => by
    have ih := sol_count f k
    cases h : sld (f k) with
    | false => rw [sol_no h, cs, if_neg (by rw [h]; simp)]; omega
    | true =>
      by_cases h2 : k = 0 ∨ sld (f (k - 1)) = false
      · rw [sol_new h h2, cs, if_pos ⟨h, h2⟩]; simp; omega
      · rw [cs, if_neg (fun x => h2 x.2)]
        obtain ⟨j, rfl⟩ : ∃ j, k = j + 1 := ⟨k - 1, by omega⟩
        have hb : sld (f j) = true := by
          cases hb : sld (f j) with
          | true => rfl
          | false => exact absurd (Or.inr (by rw [Nat.add_sub_cancel]; exact hb)) h2
        obtain ⟨l, a, N, e, _, _⟩ := sol_last hb
        rw [sol_on h hb, e, ext1_snoc]
        rw [e] at ih
        simp at ih ⊢
        omega
theorem rns_cb (f : Nat → Nat) (n : Nat) : ∀ k, k < n → (rns f n k).length + 1 = cb f (k + 1)
  | 0, _ => by simp [rns, cb]
  | k + 1, h => by
    have ih := rns_cb f n k (by omega)
    rw [cb, ← ih]
    cases hb : bnd f n (k + 1) with
    | true =>
      have h1 := bnd_iff.1 hb
      rw [Nat.add_sub_cancel] at h1
      rw [rns_yes hb, Nat.add_sub_cancel, if_pos (by omega)]
      simp
    | false =>
      have h1 := bnd_no.1 hb
      rw [Nat.add_sub_cancel] at h1
      rw [rns_no hb, Nat.add_sub_cancel, if_neg (by omega)]
theorem runs_count (f : Nat → Nat) (n : Nat) : (rns f n n).length = cb f n := by
  cases n with
  | zero => rfl
  | succ n =>
    rw [rns_yes (bnd_iff.2 (Or.inr (Or.inl rfl))), ← rns_cb f (n + 1) n (by omega)]
    simp

/-! The places where words begin. -/
def wl (f : Nat → Nat) (n : Nat) : Nat → List Nat
  | 0 => []
  | k + 1 => if k ≠ 0 ∧ wb f n k = true then wl f n k ++ [k] else wl f n k
theorem wl_len (f : Nat → Nat) (n : Nat) : ∀ k, (wl f n k).length ≤ k
  | 0 => Nat.le_refl _
  | k + 1 => by
    have := wl_len f n k
    unfold wl
    split
    · simp; omega
    · omega
theorem wl_skip {f : Nat → Nat} {n a : Nat} : ∀ m, (∀ j, a ≤ j → j < a + m → j ≠ 0 → wb f n j = false) → wl f n (a + m) = wl f n a
  | 0, _ => rfl
  | m + 1, h => by
    rw [show a + (m + 1) = a + m + 1 by omega, wl, if_neg]
    · exact wl_skip m (fun j x y z => h j x (by omega) z)
    · rintro ⟨x, y⟩
      rw [h (a + m) (by omega) (by omega) x] at y
      cases y
theorem wl_yes {f : Nat → Nat} {n k : Nat} (h0 : k ≠ 0) (h : wb f n k = true) : wl f n (k + 1) = wl f n k ++ [k] := by rw [wl, if_pos ⟨h0, h⟩]
theorem wl_next {f : Nat → Nat} {n a r : Nat} (h : IsNext f n a r) : wl f n r = wl f n (a + 1) := by
  obtain ⟨h1, h2, h3, h4⟩ := h
  have := wl_skip (f := f) (n := n) (a := a + 1) (r - (a + 1)) (fun j x y z => h4 j (by omega) (by omega))
  rwa [show a + 1 + (r - (a + 1)) = r by omega] at this
theorem wl_next2 {f : Nat → Nat} {n a r : Nat} (h : IsNext f n a r) (hr : r < n) : wl f n (r + 1) = wl f n (a + 1) ++ [r] := by
  rw [wl_yes (by have := h.1; omega) (h.2.2.1 hr), wl_next h]
theorem wl_prev {f : Nat → Nat} {n a r : Nat} (h : IsPrev f n a r) (hr : 0 < r) : wl f n a = wl f n r ++ [r] := by
  obtain ⟨h1, h2, h3⟩ := h
  have := wl_skip (f := f) (n := n) (a := r + 1) (a - (r + 1)) (fun j x y z => h3 j (by omega) (by omega))
  rw [show r + 1 + (a - (r + 1)) = a by omega] at this
  rw [this, wl_yes (by omega) (h2 hr)]
theorem wl_prev0 {f : Nat → Nat} {n a : Nat} (h : IsPrev f n a 0) : wl f n a = [] := by
  obtain ⟨h1, h2, h3⟩ := h
  have := wl_skip (f := f) (n := n) (a := 0) a (fun j x y z => h3 j (by omega) (by omega))
  rw [Nat.zero_add] at this
  rw [this]; rfl

/-! Two texts with a line end between. -/
def two (f h : Nat → Nat) (p : Nat) (j : Nat) : Nat := if j < p then f j else if j = p then 10 else h (j - p - 1)
theorem two_l {f h : Nat → Nat} {p j : Nat} (hj : j < p) : two f h p j = f j := by unfold two; rw [if_pos hj]
theorem two_m {f h : Nat → Nat} {p : Nat} : two f h p p = 10 := by unfold two; rw [if_neg (by omega), if_pos rfl]
theorem two_r {f h : Nat → Nat} {p j : Nat} : two f h p (p + 1 + j) = h j := by
  unfold two; rw [if_neg (by omega), if_neg (by omega)]; congr 1; omega
theorem cls_10 : cls 10 = 1 := rfl
theorem sld_10 : sld 10 = false := rfl
theorem cb_l (f h : Nat → Nat) (p : Nat) : ∀ k, k ≤ p → cb (two f h p) k = cb f k
  | 0, _ => rfl
  | k + 1, hk => by
    rw [cb, cb, cb_l f h p k (by omega), two_l (show k < p by omega)]
    by_cases k0 : k = 0
    · rw [if_pos (Or.inl k0), if_pos (Or.inl k0)]
    · rw [two_l (show k - 1 < p by omega)]
theorem cs_l (f h : Nat → Nat) (p : Nat) : ∀ k, k ≤ p → cs (two f h p) k = cs f k
  | 0, _ => rfl
  | k + 1, hk => by
    rw [cs, cs, cs_l f h p k (by omega), two_l (show k < p by omega)]
    by_cases k0 : k = 0
    · simp [k0]
    · rw [two_l (show k - 1 < p by omega)]
theorem cb_m (f h : Nat → Nat) (p : Nat) : cb (two f h p) (p + 1) = cb f p + if p = 0 ∨ f (p - 1) ≠ 10 then 1 else 0 := by
  rw [cb, cb_l f h p p (Nat.le_refl _), two_m, cls_10]
  by_cases p0 : p = 0
  · rw [if_pos (Or.inl p0), if_pos (Or.inl p0)]
  · rw [two_l (show p - 1 < p by omega)]
    have := cls_one (f (p - 1))
    by_cases c : f (p - 1) = 10
    · rw [if_neg (by omega), if_neg (by omega)]
    · rw [if_pos (by omega), if_pos (by omega)]
theorem cs_r (f h : Nat → Nat) (p : Nat) : ∀ j, cs (two f h p) (p + 1 + j) = cs f p + cs h j
  | 0 => by
    rw [Nat.add_zero]
    show cs (two f h p) p + (if sld (two f h p p) = true ∧ (p = 0 ∨ sld (two f h p (p - 1)) = false) then 1 else 0) = cs f p + 0
    rw [cs_l f h p p (Nat.le_refl _), two_m, if_neg (by rw [sld_10]; simp)]
  | j + 1 => by
    rw [show p + 1 + (j + 1) = p + 1 + j + 1 by omega, cs, cs_r f h p j, two_r, cs]
    by_cases j0 : j = 0
    · subst j0
      rw [show p + 1 + 0 - 1 = p by omega, two_m, sld_10]
      simp
      omega
    · obtain ⟨i, rfl⟩ : ∃ i, j = i + 1 := ⟨j - 1, by omega⟩
      rw [show p + 1 + (i + 1) - 1 = p + 1 + i by omega, two_r, Nat.add_sub_cancel]
      have e : ((p + 1 + (i + 1) = 0 ∨ sld (h i) = false) ↔ (i + 1 = 0 ∨ sld (h i) = false)) := by
        constructor
        · rintro (x | x)
          · omega
          · exact Or.inr x
        · rintro (x | x)
          · omega
          · exact Or.inr x
      simp only [e]
      omega
theorem cb_r (f h : Nat → Nat) (p : Nat) : ∀ j, cb (two f h p) (p + 1 + (j + 1)) + 1 = cb (two f h p) (p + 1) + cb h (j + 1) + if h 0 ≠ 10 then 1 else 0
  | 0 => by
    rw [show p + 1 + (0 + 1) = p + 1 + 1 by omega, cb, Nat.add_sub_cancel, two_m, cls_10]
    have e : two f h p (p + 1) = h 0 := by have := two_r (f := f) (h := h) (p := p) (j := 0); rwa [Nat.add_zero] at this
    rw [e]
    have h1 : cb h (0 + 1) = 1 := by simp [cb]
    rw [h1]
    have := cls_one (h 0)
    by_cases c : h 0 = 10
    · rw [if_neg (by omega), if_neg (by omega)]
    · rw [if_pos (by omega), if_pos c]
  | j + 1 => by
    have ih := cb_r f h p j
    rw [show p + 1 + (j + 1 + 1) = p + 1 + (j + 1) + 1 by omega, cb, two_r, show p + 1 + (j + 1) - 1 = p + 1 + j by omega, two_r]
    rw [show cb h (j + 1 + 1) = cb h (j + 1) + if j + 1 = 0 ∨ cls (h (j + 1 - 1)) ≠ cls (h (j + 1)) then 1 else 0 from rfl, Nat.add_sub_cancel]
    by_cases c : cls (h j) = cls (h (j + 1))
    · rw [if_neg (by omega), if_neg (by omega)]; omega
    · rw [if_pos (Or.inr c), if_pos (Or.inr c)]; omega
end Go.Proofs.PlatenWords
