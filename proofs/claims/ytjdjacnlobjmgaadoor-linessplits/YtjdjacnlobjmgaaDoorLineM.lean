/- Plain arithmetic of lines: where line ends are, where lines begin and end; what a search for a byte and a count of it come to. No program is spoken of. -/
import Derived.Lib.Bytealg
import Derived.Lib.Bytes
namespace Go.Proofs.PlatenLines
open Go

/-- The places of line ends among the first k bytes. -/
def ends (f : Nat → Nat) : Nat → List Nat
  | 0 => []
  | k + 1 => if f k = 10 then ends f k ++ [k] else ends f k
/-- How many line ends there are among the first k bytes. -/
def lc (f : Nat → Nat) (k : Nat) : Nat := (ends f k).length
def endAt (f : Nat → Nat) (n k : Nat) : Nat := (ends f n).getD k 0
/-- Where line k begins, and where its bytes end. -/
def beg (f : Nat → Nat) (n k : Nat) : Nat := if k = 0 then 0 else endAt f n (k - 1) + 1
def fin (f : Nat → Nat) (n k : Nat) : Nat := if k < lc f n then endAt f n k else n

theorem lc_zero (f : Nat → Nat) : lc f 0 = 0 := rfl
theorem lc_yes {f : Nat → Nat} {k : Nat} (h : f k = 10) : lc f (k + 1) = lc f k + 1 := by simp [lc, ends, h]
theorem lc_no {f : Nat → Nat} {k : Nat} (h : f k ≠ 10) : lc f (k + 1) = lc f k := by simp [lc, ends, h]
theorem ends_yes {f : Nat → Nat} {k : Nat} (h : f k = 10) : ends f (k + 1) = ends f k ++ [k] := by simp [ends, h]
theorem ends_no {f : Nat → Nat} {k : Nat} (h : f k ≠ 10) : ends f (k + 1) = ends f k := by simp [ends, h]
theorem ends_len (f : Nat → Nat) (k : Nat) : (ends f k).length = lc f k := rfl
theorem lc_step (f : Nat → Nat) (k : Nat) : lc f k ≤ lc f (k + 1) := by
  by_cases h : f k = 10
  · rw [lc_yes h]; omega
  · rw [lc_no h]; omega
theorem lc_mono (f : Nat → Nat) {a b : Nat} (h : a ≤ b) : lc f a ≤ lc f b := by
  induction b with
  | zero => have : a = 0 := by omega
            subst this; exact Nat.le_refl _
  | succ b ih =>
    by_cases e : a = b + 1
    · subst e; exact Nat.le_refl _
    · exact Nat.le_trans (ih (by omega)) (lc_step f b)
theorem lc_le (f : Nat → Nat) (k : Nat) : lc f k ≤ k := by
  induction k with
  | zero => exact Nat.le_refl _
  | succ k ih =>
    by_cases h : f k = 10
    · rw [lc_yes h]; omega
    · rw [lc_no h]; omega

theorem endAt_of {f : Nat → Nat} {n j : Nat} (hj : j < n) (h : f j = 10) : endAt f n (lc f j) = j := by
  induction n with
  | zero => omega
  | succ n ih =>
    by_cases e : j = n
    · subst e
      unfold endAt lc
      rw [ends_yes h, List.getD_eq_getElem?_getD, List.getElem?_append_right (Nat.le_refl _)]
      simp
    · have hl : lc f j < (ends f n).length := by
        have h1 := lc_yes h
        have h2 := lc_mono f (show j + 1 ≤ n by omega)
        rw [ends_len]; omega
      have := ih (by omega)
      unfold endAt at *
      by_cases h10 : f n = 10
      · rw [ends_yes h10, List.getD_eq_getElem?_getD, List.getElem?_append_left hl, ← List.getD_eq_getElem?_getD]; exact this
      · rw [ends_no h10]; exact this

theorem endAt_spec {f : Nat → Nat} {n k : Nat} (hk : k < lc f n) : endAt f n k < n ∧ f (endAt f n k) = 10 ∧ lc f (endAt f n k) = k := by
  induction n with
  | zero => rw [lc_zero] at hk; omega
  | succ n ih =>
    by_cases h10 : f n = 10
    · rw [lc_yes h10] at hk
      by_cases e : k = lc f n
      · have he := endAt_of (n := n + 1) (Nat.lt_succ_self n) h10
        rw [e, he]
        exact ⟨Nat.lt_succ_self _, h10, rfl⟩
      · have := ih (by omega)
        have e2 : endAt f (n + 1) k = endAt f n k := by
          unfold endAt
          rw [ends_yes h10, List.getD_eq_getElem?_getD, List.getElem?_append_left (by rw [ends_len]; omega), ← List.getD_eq_getElem?_getD]
        rw [e2]
        exact ⟨by omega, this.2⟩
    · rw [lc_no h10] at hk
      have := ih hk
      have e2 : endAt f (n + 1) k = endAt f n k := by unfold endAt; rw [ends_no h10]
      rw [e2]
      exact ⟨by omega, this.2⟩

theorem endAt_lt_iff {f : Nat → Nat} {n k a : Nat} (hk : k < lc f n) : endAt f n k < a ↔ k < lc f a := by
  obtain ⟨h1, h2, h3⟩ := endAt_spec hk
  constructor
  · intro h
    have e := lc_yes h2
    have := lc_mono f (show endAt f n k + 1 ≤ a by omega)
    omega
  · intro h
    by_cases c : endAt f n k < a
    · exact c
    · have := lc_mono f (show a ≤ endAt f n k by omega)
      omega

theorem beg_zero (f : Nat → Nat) (n : Nat) : beg f n 0 = 0 := rfl
theorem beg_succ (f : Nat → Nat) (n k : Nat) : beg f n (k + 1) = endAt f n k + 1 := by simp [beg]
theorem fin_in {f : Nat → Nat} {n k : Nat} (h : k < lc f n) : fin f n k = endAt f n k := by simp [fin, h]
theorem fin_last (f : Nat → Nat) (n : Nat) : fin f n (lc f n) = n := by simp [fin]
theorem beg_next {f : Nat → Nat} {n k : Nat} (h : k < lc f n) : beg f n (k + 1) = fin f n k + 1 := by rw [beg_succ, fin_in h]

theorem lc_beg {f : Nat → Nat} {n k : Nat} (h : k ≤ lc f n) : lc f (beg f n k) = k := by
  cases k with
  | zero => rfl
  | succ k =>
    obtain ⟨h1, h2, h3⟩ := endAt_spec (show k < lc f n by omega)
    rw [beg_succ, lc_yes h2, h3]
theorem lc_fin {f : Nat → Nat} {n k : Nat} (h : k ≤ lc f n) : lc f (fin f n k) = k := by
  by_cases e : k < lc f n
  · rw [fin_in e]; exact (endAt_spec e).2.2
  · have : k = lc f n := by omega
    subst this
    rw [fin_last]
theorem fin_le {f : Nat → Nat} {n k : Nat} : fin f n k ≤ n := by
  by_cases e : k < lc f n
  · rw [fin_in e]; exact Nat.le_of_lt (endAt_spec e).1
  · unfold fin; rw [if_neg e]; exact Nat.le_refl _
theorem beg_le_n {f : Nat → Nat} {n k : Nat} (h : k ≤ lc f n) : beg f n k ≤ n := by
  cases k with
  | zero => exact Nat.zero_le _
  | succ k => have := endAt_spec (show k < lc f n by omega); rw [beg_succ]; omega
theorem beg_le_fin {f : Nat → Nat} {n k : Nat} (h : k ≤ lc f n) : beg f n k ≤ fin f n k := by
  by_cases e : k < lc f n
  · rw [fin_in e]
    by_cases c : beg f n k ≤ endAt f n k
    · exact c
    · cases k with
      | zero => exact Nat.zero_le _
      | succ k =>
        rw [beg_succ] at c ⊢
        have h1 := endAt_spec (show k < lc f n by omega)
        have h2 := endAt_spec e
        have := lc_mono f (show endAt f n (k + 1) ≤ endAt f n k by omega)
        omega
  · unfold fin; rw [if_neg e]; exact beg_le_n h
theorem line_free {f : Nat → Nat} {n k j : Nat} (h : k ≤ lc f n) (h1 : beg f n k ≤ j) (h2 : j < fin f n k) : f j ≠ 10 := by
  intro h10
  have e := lc_yes h10
  have m1 := lc_mono f h1
  have m2 := lc_mono f (show j + 1 ≤ fin f n k by omega)
  rw [lc_beg h] at m1
  rw [lc_fin h] at m2
  omega
theorem fin_end {f : Nat → Nat} {n k : Nat} (h : k < lc f n) : fin f n k < n ∧ f (fin f n k) = 10 := by
  rw [fin_in h]; exact ⟨(endAt_spec h).1, (endAt_spec h).2.1⟩
theorem of_in {f : Nat → Nat} {n k a : Nat} (h : k ≤ lc f n) (h1 : beg f n k ≤ a) (h2 : a ≤ fin f n k) : lc f a = k := by
  have m1 := lc_mono f h1
  have m2 := lc_mono f h2
  rw [lc_beg h] at m1
  rw [lc_fin h] at m2
  omega
theorem of_line {f : Nat → Nat} {n a : Nat} (ha : a ≤ n) : lc f a ≤ lc f n ∧ beg f n (lc f a) ≤ a ∧ a ≤ fin f n (lc f a) := by
  have hk := lc_mono f ha
  refine ⟨hk, ?_, ?_⟩
  · by_cases c : beg f n (lc f a) ≤ a
    · exact c
    · cases hl : lc f a with
      | zero => rw [beg_zero]; exact Nat.zero_le _
      | succ k =>
        rw [hl] at c hk
        rw [beg_succ] at c ⊢
        have h1 := endAt_spec (show k < lc f n by omega)
        have := lc_mono f (show a ≤ endAt f n k by omega)
        omega
  · by_cases c : a ≤ fin f n (lc f a)
    · exact c
    · by_cases e : lc f a < lc f n
      · obtain ⟨h1, h2⟩ := fin_end e
        have h3 := lc_yes h2
        have h4 := lc_mono f (show fin f n (lc f a) + 1 ≤ a by omega)
        rw [lc_fin hk] at h3
        omega
      · have : fin f n (lc f a) = n := by unfold fin; rw [if_neg e]
        omega
theorem beg_fin_mono {f : Nat → Nat} {n j k : Nat} (h : j < k) (hk : k ≤ lc f n) : fin f n j < beg f n k := by
  have hb := lc_beg hk
  have hf := lc_fin (show j ≤ lc f n by omega)
  by_cases c : fin f n j < beg f n k
  · exact c
  · have := lc_mono f (show beg f n k ≤ fin f n j by omega)
    omega
theorem beg_mono {f : Nat → Nat} {n j k : Nat} (h : j ≤ k) (hk : k ≤ lc f n) : beg f n j ≤ beg f n k := by
  by_cases e : j = k
  · subst e; exact Nat.le_refl _
  · have := beg_fin_mono (show j < k by omega) hk
    have := beg_le_fin (f := f) (n := n) (k := j) (by omega)
    omega

/- What Go's search and count come to. -/
theorem index_some {c : UInt8} : ∀ (l : List UInt8) (m : Nat), (∀ j, j < m → l[j]? ≠ some c) → l[m]? = some c → Lib.indexByte l c = m
  | [], m, _, h => by simp at h
  | b :: l, 0, _, h => by
    simp at h
    simp [Lib.indexByte, h]
  | b :: l, m + 1, h0, h => by
    have hb : ¬ b = c := fun e => h0 0 (by omega) (by simp [e])
    have ih := index_some l m (fun j hj => by have := h0 (j + 1) (by omega); simpa using this) (by simpa using h)
    unfold Lib.indexByte
    rw [if_neg (by simpa using hb), ih, if_neg (by simp)]
    omega
theorem index_none {c : UInt8} : ∀ (l : List UInt8), (∀ j : Nat, l[j]? ≠ some c) → Lib.indexByte l c = -1
  | [], _ => rfl
  | b :: l, h0 => by
    have hb : ¬ b = c := fun e => h0 0 (by simp [e])
    have ih := index_none l (fun j => by have := h0 (j + 1); simpa using this)
    unfold Lib.indexByte
    rw [if_neg (by simpa using hb), ih]
    rfl

/-- The row's bytes, as the library's contracts have them: m of them, from place a on. -/
def nums (f : Nat → Nat) (a m : Nat) : List Int := (List.range m).map fun i => ((f (a + i) : Nat) : Int)
theorem nums_len (f : Nat → Nat) (a m : Nat) : (nums f a m).length = m := by simp [nums]
theorem nums_getD {f : Nat → Nat} {a m i : Nat} (h : i < m) : (nums f a m).getD i 0 = (f (a + i) : Nat) := by
  rw [nums, List.getD_eq_getElem?_getD, List.getElem?_map, List.getElem?_range h]; rfl
theorem nums_bytes (f : Nat → Nat) (a m : Nat) : Lib.bytesOf (nums f a m) = (List.range m).map fun i => UInt8.ofNat (f (a + i)) := by
  unfold Lib.bytesOf nums
  rw [List.map_map]
  rfl
theorem nums_get {f : Nat → Nat} {a m i : Nat} (h : i < m) : (Lib.bytesOf (nums f a m))[i]? = some (UInt8.ofNat (f (a + i))) := by
  rw [nums_bytes, List.getElem?_map, List.getElem?_range h]; rfl
theorem nums_out {f : Nat → Nat} {a m i : Nat} (h : ¬ i < m) : (Lib.bytesOf (nums f a m))[i]? = none := by
  rw [nums_bytes]; exact List.getElem?_eq_none (by simp; omega)
theorem u8_eq {x y : Nat} (hx : x < 256) (hy : y < 256) : UInt8.ofNat x = UInt8.ofNat y ↔ x = y := by
  constructor
  · intro h
    have := congrArg UInt8.toNat h
    simp at this
    omega
  · intro h; rw [h]

theorem index_line {f : Nat → Nat} {n k : Nat} (hf : ∀ j, f j < 256) (h : k < lc f n) :
    Lib.indexByte (Lib.bytesOf (nums f (beg f n k) (n - beg f n k))) (UInt8.ofNat 10) = ((fin f n k - beg f n k : Nat) : Int) := by
  have hle := beg_le_fin (Nat.le_of_lt h)
  have he := fin_end h
  refine index_some _ _ (fun j hj => ?_) ?_
  · rw [nums_get (by omega)]
    intro e
    have e := (u8_eq (hf _) (by decide)).1 (Option.some.inj e)
    exact line_free (Nat.le_of_lt h) (by omega) (by omega) e
  · rw [nums_get (by omega), show beg f n k + (fin f n k - beg f n k) = fin f n k by omega, he.2]
theorem index_last {f : Nat → Nat} {n : Nat} (hf : ∀ j, f j < 256) :
    Lib.indexByte (Lib.bytesOf (nums f (beg f n (lc f n)) (n - beg f n (lc f n)))) (UInt8.ofNat 10) = -1 := by
  have hle := beg_le_fin (Nat.le_refl (lc f n))
  refine index_none _ fun j => ?_
  by_cases hj : j < n - beg f n (lc f n)
  · rw [nums_get hj]
    intro e
    have e := (u8_eq (hf _) (by decide)).1 (Option.some.inj e)
    exact line_free (Nat.le_refl _) (Nat.le_add_right _ _) (by rw [fin_last]; omega) e
  · rw [nums_out hj]; exact fun h => by cases h
theorem count_ends {f : Nat → Nat} (hf : ∀ j, f j < 256) : ∀ n, Lib.countByte (Lib.bytesOf (nums f 0 n)) (UInt8.ofNat 10) = lc f n
  | 0 => rfl
  | n + 1 => by
    have ih := count_ends hf n
    rw [nums_bytes] at ih ⊢
    unfold Lib.countByte at *
    rw [List.range_succ, List.map_append, List.count_append, ih]
    by_cases h : f n = 10
    · rw [lc_yes h]; simp [h]
    · rw [lc_no h]
      have : ¬ UInt8.ofNat (f n) = UInt8.ofNat 10 := fun e => h ((u8_eq (hf _) (by decide)).1 e)
      simp at this
      simp [this]

/-- How many of the first i line ends are below a place. -/
theorem below_step {f : Nat → Nat} {n i a : Nat} (hi : i < lc f n) : min (i + 1) (lc f a) = min i (lc f a) + if endAt f n i < a then 1 else 0 := by
  have := endAt_lt_iff (f := f) (n := n) (k := i) (a := a) hi
  by_cases h : endAt f n i < a
  · have := this.1 h; rw [if_pos h]; omega
  · have : ¬ i < lc f a := fun hh => h (this.2 hh)
    rw [if_neg h]; omega

/- Two texts with a line end between. -/
theorem ends_congr {f g : Nat → Nat} : ∀ n, (∀ j, j < n → f j = g j) → ends f n = ends g n
  | 0, _ => rfl
  | n + 1, h => by
    have ih := ends_congr n (fun j hj => h j (by omega))
    have e := h n (by omega)
    unfold ends
    rw [ih, e]
theorem lc_congr {f g : Nat → Nat} {n : Nat} (h : ∀ j, j < n → f j = g j) : lc f n = lc g n := by unfold lc; rw [ends_congr n h]
theorem lc_shift {f g : Nat → Nat} {s : Nat} : ∀ n, (∀ j, j < n → f (s + j) = g j) → lc f (s + n) = lc f s + lc g n
  | 0, _ => rfl
  | n + 1, h => by
    have ih := lc_shift n (fun j hj => h j (by omega))
    have e := h n (by omega)
    rw [← Nat.add_assoc]
    by_cases c : g n = 10
    · rw [lc_yes (f := f) (k := s + n) (by rw [e]; exact c), lc_yes c, ih]; omega
    · rw [lc_no (f := f) (k := s + n) (by rw [e]; exact c), lc_no c, ih]
end Go.Proofs.PlatenLines
