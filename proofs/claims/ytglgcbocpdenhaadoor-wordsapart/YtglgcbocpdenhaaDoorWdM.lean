/- Classes, runs, words and solid pieces of a row of bytes: plain mathematics. -/
import Derived.Test.YtglgcbocpdenhaaDoorMathB
namespace Go.Proofs.PlatenWords
set_option linter.unusedVariables false

def cls (c : Nat) : Nat := if c = 32 ∨ c = 9 then 0 else if c = 10 then 1 else if (97 ≤ c ∧ c ≤ 122) ∨ (65 ≤ c ∧ c ≤ 90) ∨ (48 ≤ c ∧ c ≤ 57) ∨ c = 95 ∨ 128 ≤ c then 2 else 3
theorem cls_le (c : Nat) : cls c ≤ 3 := by unfold cls; repeat' split
                                           all_goals omega
theorem cls_one (c : Nat) : cls c = 1 ↔ c = 10 := by
  unfold cls
  split
  · omega
  · split
    · omega
    · split <;> omega
def sld (c : Nat) : Bool := decide (2 ≤ cls c)
theorem sld_iff {c : Nat} : sld c = true ↔ 2 ≤ cls c := by unfold sld; simp
theorem sld_no {c : Nat} : sld c = false ↔ cls c < 2 := by unfold sld; simp
def bnd (f : Nat → Nat) (n i : Nat) : Bool := decide (i = 0 ∨ i = n ∨ cls (f (i - 1)) ≠ cls (f i))
theorem bnd_iff {f : Nat → Nat} {n i : Nat} : bnd f n i = true ↔ (i = 0 ∨ i = n ∨ cls (f (i - 1)) ≠ cls (f i)) := by unfold bnd; simp
theorem bnd_no {f : Nat → Nat} {n i : Nat} : bnd f n i = false ↔ (i ≠ 0 ∧ i ≠ n ∧ cls (f (i - 1)) = cls (f i)) := by unfold bnd; simp

def st (f : Nat → Nat) (n : Nat) : Nat → Nat
  | 0 => 0
  | k + 1 => if bnd f n (k + 1) then k + 1 else st f n k
def rns (f : Nat → Nat) (n : Nat) : Nat → List (Nat × Nat)
  | 0 => []
  | k + 1 => if bnd f n (k + 1) then rns f n k ++ [(st f n k, k + 1 - st f n k)] else rns f n k
theorem st_le (f : Nat → Nat) (n : Nat) : ∀ k, st f n k ≤ k
  | 0 => Nat.le_refl _
  | k + 1 => by unfold st; split
                · omega
                · have := st_le f n k; omega
theorem st_yes {f : Nat → Nat} {n k : Nat} (h : bnd f n (k + 1) = true) : st f n (k + 1) = k + 1 := by rw [st, if_pos h]
theorem st_no {f : Nat → Nat} {n k : Nat} (h : bnd f n (k + 1) = false) : st f n (k + 1) = st f n k := by rw [st, if_neg (by rw [h]; decide)]
theorem rns_yes {f : Nat → Nat} {n k : Nat} (h : bnd f n (k + 1) = true) : rns f n (k + 1) = rns f n k ++ [(st f n k, k + 1 - st f n k)] := by rw [rns, if_pos h]
theorem rns_no {f : Nat → Nat} {n k : Nat} (h : bnd f n (k + 1) = false) : rns f n (k + 1) = rns f n k := by rw [rns, if_neg (by rw [h]; decide)]
theorem st_cls (f : Nat → Nat) (n : Nat) : ∀ k, ∀ j, st f n k ≤ j → j ≤ k → cls (f j) = cls (f k)
  | 0, j, _, h => by rw [show j = 0 by omega]
  | k + 1, j, h1, h2 => by
    by_cases e : j = k + 1
    · rw [e]
    cases hb : bnd f n (k + 1) with
    | true => rw [st_yes hb] at h1; omega
    | false =>
      rw [st_no hb] at h1
      have := st_cls f n k j h1 (by omega)
      have h3 := (bnd_no.1 hb).2.2
      rw [show k + 1 - 1 = k by omega] at h3
      omega
theorem st_bnd (f : Nat → Nat) (n : Nat) : ∀ k, bnd f n (st f n k) = true
  | 0 => by rw [st, bnd_iff]; exact Or.inl rfl
  | k + 1 => by
    cases hb : bnd f n (k + 1) with
    | true => rw [st_yes hb]; exact hb
    | false => rw [st_no hb]; exact st_bnd f n k
theorem st_end (f : Nat → Nat) (n : Nat) : st f n n = n := by
  cases n with
  | zero => rfl
  | succ n => exact st_yes (bnd_iff.2 (Or.inr (Or.inl rfl)))
theorem rns_len_le (f : Nat → Nat) (n : Nat) : ∀ k, (rns f n k).length ≤ k
  | 0 => Nat.le_refl _
  | k + 1 => by
    have := rns_len_le f n k
    cases hb : bnd f n (k + 1) with
    | true => rw [rns_yes hb]; simp; omega
    | false => rw [rns_no hb]; omega
/-- The document asks it of the piece's first byte. -/
theorem doc_bnd {f : Nat → Nat} {n k : Nat} (hk : k + 1 ≤ n) : bnd f n (k + 1) = decide (k + 1 = n ∨ cls (f (k + 1)) ≠ cls (f (st f n k))) := by
  have h := st_cls f n k (st f n k) (Nat.le_refl _) (st_le f n k)
  rw [Bool.eq_iff_iff, bnd_iff]
  simp only [decide_eq_true_eq, Nat.add_sub_cancel]
  omega

/-- What a run is. -/
def Good (f : Nat → Nat) (n : Nat) (p : Nat × Nat) : Prop :=
  1 ≤ p.2 ∧ p.1 + p.2 ≤ n ∧ bnd f n p.1 = true ∧ bnd f n (p.1 + p.2) = true ∧ ∀ j, p.1 ≤ j → j < p.1 + p.2 → cls (f j) = cls (f p.1)
/-- Runs, one behind the other, from a to b. -/
def Chain (f : Nat → Nat) (n : Nat) : List (Nat × Nat) → Nat → Nat → Prop
  | [], a, b => a = b
  | p :: t, a, b => p.1 = a ∧ Good f n p ∧ Chain f n t (a + p.2) b
theorem chain_snoc {f : Nat → Nat} {n : Nat} : ∀ {l : List (Nat × Nat)} {a b m : Nat}, Chain f n l a b → Good f n (b, m) → Chain f n (l ++ [(b, m)]) a (b + m)
  | [], a, b, m, h, g => by cases h; exact ⟨rfl, g, rfl⟩
  | p :: t, a, b, m, h, g => ⟨h.1, h.2.1, chain_snoc h.2.2 g⟩
theorem rns_chain (f : Nat → Nat) (n : Nat) : ∀ k, k ≤ n → Chain f n (rns f n k) 0 (st f n k)
  | 0, _ => rfl
  | k + 1, h => by
    have ih := rns_chain f n k (by omega)
    cases hb : bnd f n (k + 1) with
    | false => rw [rns_no hb, st_no hb]; exact ih
    | true =>
      have hle := st_le f n k
      have g : Good f n (st f n k, k + 1 - st f n k) := by
        have e : st f n k + (k + 1 - st f n k) = k + 1 := by omega
        refine ⟨by simp only; omega, by simp only; omega, st_bnd f n k, by simp only; rw [e]; exact hb, fun j h1 h2 => ?_⟩
        simp only at h1 h2 ⊢
        rw [st_cls f n k j h1 (by omega), st_cls f n k (st f n k) (Nat.le_refl _) hle]
      have := chain_snoc ih g
      rw [show st f n k + (k + 1 - st f n k) = k + 1 by omega] at this
      rw [rns_yes hb, st_yes hb]
      exact this
theorem runs_chain (f : Nat → Nat) (n : Nat) : Chain f n (rns f n n) 0 n := by
  have := rns_chain f n n (Nat.le_refl _)
  rwa [st_end] at this
theorem chain_ge {f : Nat → Nat} {n : Nat} : ∀ {l : List (Nat × Nat)} {a b : Nat}, Chain f n l a b → ∀ p ∈ l, a ≤ p.1 ∧ Good f n p
  | [], _, _, _, p, h => by cases h
  | q :: t, a, b, h, p, hp => by
    rcases List.mem_cons.1 hp with rfl | hp
    · exact ⟨by rw [h.1]; exact Nat.le_refl _, h.2.1⟩
    · have := chain_ge h.2.2 p hp
      exact ⟨by omega, this.2⟩
theorem chain_sorted {f : Nat → Nat} {n : Nat} : ∀ {l : List (Nat × Nat)} {a b : Nat}, Chain f n l a b → l.Pairwise fun p q => p.1 + p.2 ≤ q.1
  | [], _, _, _ => List.Pairwise.nil
  | q :: t, a, b, h => by
    refine List.Pairwise.cons (fun p hp => ?_) (chain_sorted h.2.2)
    have := (chain_ge h.2.2 p hp).1
    rw [h.1]; exact this
/-- Each place where a run begins is some run's beginning; each where one ends some run's end. -/
theorem chain_start {f : Nat → Nat} {n : Nat} : ∀ {l : List (Nat × Nat)} {a b : Nat}, Chain f n l a b → ∀ j, a ≤ j → j < b → bnd f n j = true → ∃ p ∈ l, p.1 = j
  | [], a, b, h, j, h1, h2, _ => by have : a = b := h; omega
  | q :: t, a, b, h, j, h1, h2, hb => by
    obtain ⟨hq, g, ht⟩ := h
    by_cases e : j = a
    · exact ⟨q, List.mem_cons_self .., by omega⟩
    by_cases e2 : j < a + q.2
    · exfalso
      obtain ⟨g1, g2, g3, g4, g5⟩ := g
      rw [hq] at g2 g5
      have c1 := g5 j (by omega) (by omega)
      have c2 := g5 (j - 1) (by omega) (by omega)
      rcases bnd_iff.1 hb with h' | h' | h'
      · omega
      · omega
      · omega
    · obtain ⟨p, hp, hj⟩ := chain_start ht j (by omega) h2 hb
      exact ⟨p, List.mem_cons_of_mem _ hp, hj⟩
theorem chain_end {f : Nat → Nat} {n : Nat} : ∀ {l : List (Nat × Nat)} {a b : Nat}, Chain f n l a b → ∀ j, a < j → j ≤ b → bnd f n j = true → ∃ p ∈ l, p.1 + p.2 = j
  | [], a, b, h, j, h1, h2, _ => by have : a = b := h; omega
  | q :: t, a, b, h, j, h1, h2, hb => by
    obtain ⟨hq, g, ht⟩ := h
    by_cases e : j = a + q.2
    · exact ⟨q, List.mem_cons_self .., by omega⟩
    by_cases e2 : j < a + q.2
    · exfalso
      obtain ⟨g1, g2, g3, g4, g5⟩ := g
      rw [hq] at g2 g5
      have c1 := g5 j (by omega) (by omega)
      have c2 := g5 (j - 1) (by omega) (by omega)
      rcases bnd_iff.1 hb with h' | h' | h'
      · omega
      · omega
      · omega
    · obtain ⟨p, hp, hj⟩ := chain_end ht j (by omega) h2 hb
      exact ⟨p, List.mem_cons_of_mem _ hp, hj⟩

/-- The runs that are words. -/
def wds (f : Nat → Nat) (n : Nat) : List (Nat × Nat) := (rns f n n).filter fun p => sld (f p.1)
/-- A word begins there; a word ends there. -/
def wb (f : Nat → Nat) (n j : Nat) : Bool := sld (f j) && bnd f n j
def we (f : Nat → Nat) (n j : Nat) : Bool := sld (f (j - 1)) && bnd f n j
theorem wds_sorted (f : Nat → Nat) (n : Nat) : (wds f n).Pairwise fun p q => p.1 + p.2 ≤ q.1 := (chain_sorted (runs_chain f n)).filter _
theorem wds_good {f : Nat → Nat} {n : Nat} {p : Nat × Nat} (h : p ∈ wds f n) : Good f n p ∧ sld (f p.1) = true := by
  unfold wds at h
  rw [List.mem_filter] at h
  exact ⟨(chain_ge (runs_chain f n) p h.1).2, h.2⟩
theorem wds_wb {f : Nat → Nat} {n : Nat} {p : Nat × Nat} (h : p ∈ wds f n) : p.1 < n ∧ wb f n p.1 = true := by
  obtain ⟨g, hs⟩ := wds_good h
  exact ⟨by have := g.1; have := g.2.1; omega, by unfold wb; rw [hs, g.2.2.1]; rfl⟩
theorem wds_we {f : Nat → Nat} {n : Nat} {p : Nat × Nat} (h : p ∈ wds f n) : 1 ≤ p.1 + p.2 ∧ p.1 + p.2 ≤ n ∧ we f n (p.1 + p.2) = true := by
  obtain ⟨g, hs⟩ := wds_good h
  have h1 := g.1
  refine ⟨by omega, g.2.1, ?_⟩
  unfold we
  have hc := g.2.2.2.2 (p.1 + p.2 - 1) (by omega) (by omega)
  have : sld (f (p.1 + p.2 - 1)) = true := by rw [sld_iff] at hs ⊢; omega
  rw [this, g.2.2.2.1]; rfl
theorem wb_wds {f : Nat → Nat} {n j : Nat} (hj : j < n) (h : wb f n j = true) : ∃ p ∈ wds f n, p.1 = j := by
  unfold wb at h
  rw [Bool.and_eq_true] at h
  obtain ⟨p, hp, hpj⟩ := chain_start (runs_chain f n) j (Nat.zero_le _) hj h.2
  refine ⟨p, ?_, hpj⟩
  unfold wds
  rw [List.mem_filter]
  exact ⟨hp, by rw [hpj]; exact h.1⟩
theorem we_wds {f : Nat → Nat} {n j : Nat} (h0 : 1 ≤ j) (hj : j ≤ n) (h : we f n j = true) : ∃ p ∈ wds f n, p.1 + p.2 = j := by
  unfold we at h
  rw [Bool.and_eq_true] at h
  obtain ⟨p, hp, hpj⟩ := chain_end (runs_chain f n) j (by omega) hj h.2
  refine ⟨p, ?_, hpj⟩
  unfold wds
  rw [List.mem_filter]
  have g := (chain_ge (runs_chain f n) p hp).2
  have hc := g.2.2.2.2 (j - 1) (by have := g.1; omega) (by omega)
  refine ⟨hp, ?_⟩
  have h1 := h.1
  rw [sld_iff] at h1 ⊢
  omega

/-! Forward, Back, Last. -/
def IsNext (f : Nat → Nat) (n at' r : Nat) : Prop := at' < r ∧ r ≤ n ∧ (r < n → wb f n r = true) ∧ ∀ j, at' < j → j < r → wb f n j = false
theorem isNext_eq {f : Nat → Nat} {n a r s : Nat} (h : IsNext f n a r) (k : IsNext f n a s) : r = s := by
  obtain ⟨h1, h2, h3, h4⟩ := h
  obtain ⟨k1, k2, k3, k4⟩ := k
  by_cases c : r < s
  · have := h3 (by omega); rw [k4 r h1 c] at this; cases this
  · by_cases d : s < r
    · have := k3 (by omega); rw [h4 s k1 d] at this; cases this
    · omega
def IsPrev (f : Nat → Nat) (n at' r : Nat) : Prop := r < at' ∧ (0 < r → wb f n r = true) ∧ ∀ j, r < j → j < at' → wb f n j = false
theorem isPrev_eq {f : Nat → Nat} {n a r s : Nat} (h : IsPrev f n a r) (k : IsPrev f n a s) : r = s := by
  obtain ⟨h1, h2, h3⟩ := h
  obtain ⟨k1, k2, k3⟩ := k
  by_cases c : r < s
  · have := k2 (by omega); rw [h3 s c k1] at this; cases this
  · by_cases d : s < r
    · have := h2 (by omega); rw [k3 r d h1] at this; cases this
    · omega
theorem getElem_lt {l : List (Nat × Nat)} (hs : l.Pairwise fun p q => p.1 + p.2 ≤ q.1) {i j : Nat} (hi : i < j) (hj : j < l.length) : l[i].1 + l[i].2 ≤ l[j].1 :=
  List.pairwise_iff_getElem.1 hs i j (by omega) hj hi
theorem next_found {f : Nat → Nat} {n a i : Nat} (hi : i < (wds f n).length) (h : a < (wds f n)[i].1) (hall : ∀ j (hj : j < (wds f n).length), j < i → (wds f n)[j].1 ≤ a) : IsNext f n a (wds f n)[i].1 := by
  have hw := wds_wb (List.getElem_mem hi)
  refine ⟨h, by omega, fun _ => hw.2, fun j h1 h2 => ?_⟩
  cases hb : wb f n j with
  | false => rfl
  | true =>
    exfalso
    obtain ⟨p, hp, hpj⟩ := wb_wds (by omega) hb
    obtain ⟨k, hk, hkp⟩ := List.getElem_of_mem hp
    by_cases c : k < i
    · have := hall k hk c; rw [hkp] at this; omega
    · by_cases d : k = i
      · subst d; rw [hkp] at h2; omega
      · have := getElem_lt (wds_sorted f n) (show i < k by omega) hk; rw [hkp] at this; omega
theorem next_none {f : Nat → Nat} {n a : Nat} (ha : a < n) (hall : ∀ j (hj : j < (wds f n).length), (wds f n)[j].1 ≤ a) : IsNext f n a n := by
  refine ⟨ha, Nat.le_refl _, fun h => absurd h (Nat.lt_irrefl _), fun j h1 h2 => ?_⟩
  cases hb : wb f n j with
  | false => rfl
  | true =>
    exfalso
    obtain ⟨p, hp, hpj⟩ := wb_wds h2 hb
    obtain ⟨k, hk, hkp⟩ := List.getElem_of_mem hp
    have := hall k hk; rw [hkp] at this; omega
theorem prev_found {f : Nat → Nat} {n a i : Nat} (han : a ≤ n) (hi : i < (wds f n).length) (h : (wds f n)[i].1 < a) (hall : ∀ j (hj : j < (wds f n).length), i < j → a ≤ (wds f n)[j].1) : IsPrev f n a (wds f n)[i].1 := by
  have hw := wds_wb (List.getElem_mem hi)
  refine ⟨h, fun _ => hw.2, fun j h1 h2 => ?_⟩
  cases hb : wb f n j with
  | false => rfl
  | true =>
    exfalso
    obtain ⟨p, hp, hpj⟩ := wb_wds (by omega) hb
    obtain ⟨k, hk, hkp⟩ := List.getElem_of_mem hp
    by_cases c : i < k
    · have := hall k hk c; rw [hkp] at this; omega
    · by_cases d : k = i
      · subst d; rw [hkp] at h1; omega
      · have := getElem_lt (wds_sorted f n) (show k < i by omega) hi; rw [hkp] at this; omega
theorem prev_none {f : Nat → Nat} {n a : Nat} (ha : 0 < a) (han : a ≤ n) (hall : ∀ j (hj : j < (wds f n).length), a ≤ (wds f n)[j].1) : IsPrev f n a 0 := by
  refine ⟨ha, fun h => absurd h (Nat.lt_irrefl _), fun j h1 h2 => ?_⟩
  cases hb : wb f n j with
  | false => rfl
  | true =>
    exfalso
    obtain ⟨p, hp, hpj⟩ := wb_wds (by omega) hb
    obtain ⟨k, hk, hkp⟩ := List.getElem_of_mem hp
    have := hall k hk; rw [hkp] at this; omega

/-- The first word's end whose last sign (g tells how long it is) begins behind a place; or that there is none. -/
def IsLast (f g : Nat → Nat) (n : Nat) (a : Int) (e : Nat) : Prop := 1 ≤ e ∧ e ≤ n ∧ we f n e = true ∧ a < (e : Int) - (g e : Int) ∧ ∀ j, 1 ≤ j → j < e → we f n j = true → (j : Int) - (g j : Int) ≤ a
def NoLast (f g : Nat → Nat) (n : Nat) (a : Int) : Prop := ∀ j, 1 ≤ j → j ≤ n → we f n j = true → (j : Int) - (g j : Int) ≤ a
theorem isLast_eq {f g : Nat → Nat} {n : Nat} {a : Int} {e d : Nat} (h : IsLast f g n a e) (k : IsLast f g n a d) : e = d := by
  obtain ⟨h1, h2, h3, h4, h5⟩ := h
  obtain ⟨k1, k2, k3, k4, k5⟩ := k
  by_cases c : e < d
  · have := k5 e h1 c h3; omega
  · by_cases c2 : d < e
    · have := h5 d k1 c2 k3; omega
    · omega
theorem last_not {f g : Nat → Nat} {n : Nat} {a : Int} {e : Nat} (h : IsLast f g n a e) (k : NoLast f g n a) : False := by
  obtain ⟨h1, h2, h3, h4, h5⟩ := h
  have := k e h1 h2 h3; omega
theorem last_found {f g : Nat → Nat} {n : Nat} {a : Int} {i : Nat} (hi : i < (wds f n).length) (h : a < (((wds f n)[i].1 + (wds f n)[i].2 : Nat) : Int) - (g ((wds f n)[i].1 + (wds f n)[i].2) : Int))
    (hall : ∀ j (hj : j < (wds f n).length), j < i → (((wds f n)[j].1 + (wds f n)[j].2 : Nat) : Int) - (g ((wds f n)[j].1 + (wds f n)[j].2) : Int) ≤ a) : IsLast f g n a ((wds f n)[i].1 + (wds f n)[i].2) := by
  have hw := wds_we (List.getElem_mem hi)
  refine ⟨hw.1, hw.2.1, hw.2.2, h, fun j h1 h2 h3 => ?_⟩
  obtain ⟨p, hp, hpj⟩ := we_wds h1 (by omega) h3
  obtain ⟨k, hk, hkp⟩ := List.getElem_of_mem hp
  by_cases c : k < i
  · have := hall k hk c; rw [hkp, hpj] at this; exact this
  · exfalso
    by_cases d : k = i
    · subst d; rw [hkp] at h2; omega
    · have h4 := getElem_lt (wds_sorted f n) (show i < k by omega) hk
      have h5 := (wds_good (List.getElem_mem hk)).1.1
      rw [hkp] at h4 h5; omega
theorem last_none {f g : Nat → Nat} {n : Nat} {a : Int} (hall : ∀ j (hj : j < (wds f n).length), (((wds f n)[j].1 + (wds f n)[j].2 : Nat) : Int) - (g ((wds f n)[j].1 + (wds f n)[j].2) : Int) ≤ a) : NoLast f g n a := by
  intro j h1 h2 h3
  obtain ⟨p, hp, hpj⟩ := we_wds h1 h2 h3
  obtain ⟨k, hk, hkp⟩ := List.getElem_of_mem hp
  have := hall k hk; rw [hkp, hpj] at this; exact this
end Go.Proofs.PlatenWords
