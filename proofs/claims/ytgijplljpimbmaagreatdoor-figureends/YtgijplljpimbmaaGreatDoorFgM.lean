/- Plain mathematics of float64's order: each word has a key, a whole number, by which it stands. -/
import Derived.Test.YtgijplljpimbmaaGreatDoorProg
import Derived.Laws.FloatArith
namespace Go.Proofs.PlatenFigure
open Ieee
set_option linter.unusedVariables false

theorem cmp_lt (a b : Int) : (compare a b = .lt) ↔ a < b := by
  show compareOfLessAndEq a b = .lt ↔ a < b
  unfold compareOfLessAndEq
  split
  · simp [*]
  · split <;> simp [*]
theorem cmp_eq (a b : Int) : (compare a b = .eq) ↔ a = b := by
  show compareOfLessAndEq a b = .eq ↔ a = b
  unfold compareOfLessAndEq
  split
  · simp; omega
  · split <;> simp [*]

theorem top_there : ∃ T : Nat, ∀ m u, m < 2 ^ 53 → u ≤ 2045 → m * 2 ^ u < T := by
  obtain ⟨k, hk⟩ : ∃ k, k = 2045 := ⟨_, rfl⟩
  rw [← hk]
  exact ⟨2 ^ 53 * 2 ^ k, fun m u hm hu => Nat.lt_of_lt_of_le (Nat.mul_lt_mul_of_pos_right hm (Nat.two_pow_pos u)) (Nat.mul_le_mul_left _ (Nat.pow_le_pow_right (by decide) hu))⟩
/-- More than any finite number is worth. -/
def Top (T : Nat) : Prop := ∀ m u, m < 2 ^ 53 → u ≤ 2045 → m * 2 ^ u < T
/-- A number's worth, in units of the least one. -/
def V (T : Nat) : Datum → Int
  | .number s m i => signed s m (i + 1074).toNat
  | .infinity s => if s then -(T : Int) else T
  | .nan .. => 0
def Okd : Datum → Prop
  | .number s m i => m < 2 ^ 53 ∧ -1074 ≤ i ∧ i ≤ 971
  | _ => True

theorem least_place : Ieee.double.leastPlace = -1074 := by decide
theorem sign_weight : Ieee.double.signWeight = 2 ^ 63 := by decide
theorem binade_is : Ieee.double.binade = 2 ^ 52 := by decide
theorem inf_rung : Ieee.double.infRung = 2047 * 2 ^ 52 := by decide

theorem read_ok (w : Nat) : Okd (Ieee.double.read w) := by
  unfold Format.read
  simp only [least_place, sign_weight, binade_is, inf_rung]
  split
  · simp only [Okd]; omega
  · split
    · rename_i h1 h2
      simp only [Okd]
      generalize hr : w % 2 ^ 63 = r at *
      have h3 : r / 2 ^ 52 < 2047 := by rw [Nat.div_lt_iff_lt_mul (by decide)]; omega
      have h4 : r % 2 ^ 52 < 2 ^ 52 := Nat.mod_lt _ (by decide)
      refine ⟨by omega, by omega, by omega⟩
    · split <;> simp [Okd]

theorem signed_add (s : Bool) (m u k : Nat) : signed s m (u + k) = signed s m u * (2 ^ k : Nat) := by
  unfold signed
  rw [Nat.shiftLeft_eq, Nat.shiftLeft_eq, Nat.pow_add, ← Nat.mul_assoc]
  split <;> simp [Int.neg_mul]
theorem signed_bound {T : Nat} (hT : Top T) (s : Bool) (m u : Nat) (hm : m < 2 ^ 53) (hu : u ≤ 2045) : -(T : Int) < signed s m u ∧ signed s m u < T ∧ (s = true → signed s m u ≤ 0) ∧ (s = false → 0 ≤ signed s m u) := by
  have h1 := hT m u hm hu
  unfold signed
  rw [Nat.shiftLeft_eq]
  generalize m * 2 ^ u = x at *
  cases s <;> simp <;> omega

theorem order_none (d e : Datum) : d.order e = none ↔ (d.isNaN = true ∨ e.isNaN = true) := by
  cases d <;> cases e <;> simp [Datum.order, Datum.isNaN]
theorem V_bound {T : Nat} (hT : Top T) {d : Datum} (hd : Okd d) : -(T : Int) ≤ V T d ∧ V T d ≤ T ∧ (d.neg = true → V T d ≤ 0 ∨ d.isNaN = true) ∧ (d.neg = false → 0 ≤ V T d ∨ d.isNaN = true) := by
  cases d with
  | number s m i =>
    simp only [Okd] at hd
    have := signed_bound hT s m (i + 1074).toNat hd.1 (by omega)
    simp only [V, Datum.neg, Datum.isNaN]
    exact ⟨by omega, by omega, fun h => .inl (this.2.2.1 h), fun h => .inl (this.2.2.2 h)⟩
  | infinity s => cases s <;> simp [V, Datum.neg] <;> omega
  | nan s f => simp [V, Datum.isNaN]
theorem scale_lt (a b : Int) (k : Nat) : a * (2 ^ k : Nat) < b * (2 ^ k : Nat) ↔ a < b := by
  have hk : (0 : Int) < ((2 ^ k : Nat) : Int) := by exact_mod_cast Nat.two_pow_pos k
  exact ⟨fun h => Int.lt_of_mul_lt_mul_right h (Int.le_of_lt hk), fun h => Int.mul_lt_mul_of_pos_right h hk⟩
theorem scale_eq (a b : Int) (k : Nat) : a * (2 ^ k : Nat) = b * (2 ^ k : Nat) ↔ a = b := by
  have hk : ((2 ^ k : Nat) : Int) ≠ 0 := by have := Nat.two_pow_pos k; omega
  exact ⟨fun h => Int.eq_of_mul_eq_mul_right hk h, fun h => by rw [h]⟩
theorem order_V {T : Nat} (hT : Top T) {d e : Datum} (hd : Okd d) (he : Okd e) (nd : d.isNaN = false) (ne : e.isNaN = false) :
    (d.order e = some .lt ↔ V T d < V T e) ∧ (d.order e = some .eq ↔ V T d = V T e) := by
  have hpos : 0 < T := by have := hT 0 0 (by decide) (by decide); omega
  cases d with
  | nan s f => simp [Datum.isNaN] at nd
  | infinity s =>
    cases e with
    | nan t g => simp [Datum.isNaN] at ne
    | infinity t => cases s <;> cases t <;> simp [Datum.order, V, compare, compareOfLessAndEq] <;> omega
    | number t n j =>
      simp only [Okd] at he
      have h := signed_bound hT t n (j + 1074).toNat he.1 (by omega)
      cases s <;> simp [Datum.order, V] <;> omega
  | number s m i =>
    simp only [Okd] at hd
    have h1 := signed_bound hT s m (i + 1074).toNat hd.1 (by omega)
    cases e with
    | nan t g => simp [Datum.isNaN] at ne
    | infinity t => cases t <;> simp [Datum.order, V] <;> omega
    | number t n j =>
      simp only [Okd] at he
      simp only [Datum.order, V, Option.some.injEq, cmp_lt, cmp_eq]
      have e1 : (i + 1074).toNat = (i - min i j).toNat + (min i j + 1074).toNat := by omega
      have e2 : (j + 1074).toNat = (j - min i j).toNat + (min i j + 1074).toNat := by omega
      rw [e1, e2, signed_add, signed_add, scale_lt, scale_eq]
      exact ⟨Iff.rfl, Iff.rfl⟩

/-- A word is a NaN's. -/
def nanW (a : Nat) : Bool := (Ieee.double.read a).isNaN
def negW (a : Nat) : Bool := decide (2 ^ 63 ≤ a)
def key (T a : Nat) : Int := if nanW a then 2 * T + 1 else 2 * V T (Ieee.double.read a) - (if negW a then 1 else 0)
def ord (a b : Nat) : Option Ordering := FloatKind.f64.format.order a b
def lessB (a b : Nat) : Bool := if nanW a then false else if nanW b then true else if ord a b == some .eq then negW a && !negW b else ord a b == some .lt
def rlessB (a b : Nat) : Bool := if nanW a then false else if nanW b then true else if ord a 0 == some .eq && ord b 0 == some .eq then negW a && !negW b else ord a b == some .lt

theorem read_neg {a : Nat} (h : a < 2 ^ 64) : (Ieee.double.read a).neg = negW a := by
  unfold Format.read negW
  simp only [sign_weight]
  have e : (a / 2 ^ 63 % 2 == 1) = decide (2 ^ 63 ≤ a) := by
    rw [Bool.eq_iff_iff]; simp; omega
  rw [e]
  split
  · rfl
  · split
    · rfl
    · split <;> rfl
theorem read_zero (T : Nat) : V T (Ieee.double.read 0) = 0 ∧ nanW 0 = false := by
  have e : Ieee.double.read 0 = .number false 0 (-1074) := by decide
  unfold nanW
  rw [e]
  exact ⟨by simp [V, signed], rfl⟩
theorem ord_self (a : Nat) : (ord a a == some .eq) = !nanW a := by
  obtain ⟨T, hT⟩ := top_there
  cases hn : nanW a
  · have := (order_V hT (read_ok a) (read_ok a) hn hn).2.2 rfl
    simp [ord, FloatKind.format, Format.order, this]
  · have := (order_none (Ieee.double.read a) (Ieee.double.read a)).2 (.inl hn)
    simp [ord, FloatKind.format, Format.order, this]
theorem ord_not_nan {a b : Nat} (h : nanW a = true ∨ nanW b = true) : ord a b = none := (order_none _ _).2 h

theorem less_key {T : Nat} (hT : Top T) {a b : Nat} (ha : a < 2 ^ 64) (hb : b < 2 ^ 64) : lessB a b = decide (key T a < key T b) ∧ rlessB a b = decide (key T a < key T b) := by
  have va := V_bound hT (read_ok a)
  have vb := V_bound hT (read_ok b)
  rw [read_neg ha] at va
  rw [read_neg hb] at vb
  unfold lessB rlessB key
  cases hna : nanW a
  · cases hnb : nanW b
    · have o := order_V hT (read_ok a) (read_ok b) hna hnb
      have oa := (order_V hT (read_ok a) (read_ok 0) hna (read_zero T).2).2
      have ob := (order_V hT (read_ok b) (read_ok 0) hnb (read_zero T).2).2
      rw [(read_zero T).1] at oa ob
      change (ord a b = _ ↔ _) ∧ (ord a b = _ ↔ _) at o
      change (ord a 0 = _ ↔ _) at oa
      change (ord b 0 = _ ↔ _) at ob
      simp only [nanW] at hna hnb
      rw [hna] at va
      rw [hnb] at vb
      generalize V T (Ieee.double.read a) = x at *
      generalize V T (Ieee.double.read b) = y at *
      simp only [Bool.false_eq_true, or_false, if_false] at *
      have e1 : (ord a b == some .eq) = decide (x = y) := by rw [Bool.eq_iff_iff]; simp [o.2]
      have e2 : (ord a b == some .lt) = decide (x < y) := by rw [Bool.eq_iff_iff]; simp [o.1]
      have e3 : (ord a 0 == some .eq) = decide (x = 0) := by rw [Bool.eq_iff_iff]; simp [oa]
      have e4 : (ord b 0 == some .eq) = decide (y = 0) := by rw [Bool.eq_iff_iff]; simp [ob]
      rw [e1, e2, e3, e4]
      cases h1 : negW a <;> cases h2 : negW b <;> simp only [h1, h2] at * <;> constructor <;> rw [Bool.eq_iff_iff] <;> (by_cases hxy : x = y <;> by_cases hx : x = 0 <;> by_cases hy : y = 0 <;> simp_all <;> omega)
    · simp only [nanW] at hna
      have := va.2.1
      simp
      cases negW a <;> simp <;> omega
  · simp
    cases hnb : nanW b
    · simp only [nanW] at hnb
      have := vb.2.1
      cases negW b <;> simp <;> omega
    · simp
end Go.Proofs.PlatenFigure
