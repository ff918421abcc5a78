/- What a decimal is, shifted to the left: plain mathematics. -/
import Derived.Test.YtgijplljpimbmaaGreatDoorFgDc
import Derived.Test.YtgijplljpimbmaaGreatDoorFgTb
namespace Go.Proofs.PlatenFigure

def VX (x : Nat → Nat) : Nat → Nat
  | 0 => 0
  | r + 1 => 10 * VX x r + x r
theorem Vr_VX (g : Nat → Nat) (nd : Nat) : ∀ r, Vr g nd r = VX (ddg g nd) r
  | 0 => rfl
  | r + 1 => by rw [Vr, VX, Vr_VX g nd r]
theorem VX_ge (x : Nat → Nat) (i : Nat) : ∀ d, VX x i * 10 ^ d ≤ VX x (i + d)
  | 0 => by rw [Nat.pow_zero, Nat.mul_one]; exact Nat.le_refl _
  | d + 1 => by
    have := VX_ge x i d
    show VX x i * 10 ^ (d + 1) ≤ 10 * VX x (i + d) + x (i + d)
    rw [Nat.pow_succ, ← Nat.mul_assoc]
    omega
theorem VX_lt (x : Nat → Nat) (h : ∀ j, x j ≤ 9) (i : Nat) : ∀ d, VX x (i + d) < (VX x i + 1) * 10 ^ d
  | 0 => by rw [Nat.pow_zero, Nat.mul_one]; exact Nat.lt_succ_self _
  | d + 1 => by
    have := VX_lt x h i d
    have h9 := h (i + d)
    show 10 * VX x (i + d) + x (i + d) < _
    rw [Nat.pow_succ, ← Nat.mul_assoc]
    omega
theorem VX_tail (x : Nat → Nat) (i : Nat) (hz : ∀ j, i ≤ j → x j = 0) : ∀ d, VX x (i + d) = VX x i * 10 ^ d
  | 0 => by rw [Nat.pow_zero, Nat.mul_one]; rfl
  | d + 1 => by
    have := VX_tail x i hz d
    show 10 * VX x (i + d) + x (i + d) = _
    have e : VX x i * 10 ^ (d + 1) = VX x i * 10 ^ d * 10 := by rw [Nat.pow_succ, Nat.mul_assoc]
    rw [e, hz (i + d) (by omega), this]
    omega
theorem VX_div (x : Nat → Nat) (h : ∀ j, x j ≤ 9) (i d : Nat) : VX x (i + d) / 10 ^ d = VX x i := by
  have h1 := VX_ge x i d
  have h2 := VX_lt x h i d
  have hp : 0 < 10 ^ d := Nat.pow_pos (by decide)
  have a1 : VX x i ≤ VX x (i + d) / 10 ^ d := (Nat.le_div_iff_mul_le hp).2 h1
  have a2 : VX x (i + d) / 10 ^ d < VX x i + 1 := (Nat.div_lt_iff_lt_mul hp).2 h2
  omega
theorem VX_mod (x : Nat → Nat) (h : ∀ j, x j ≤ 9) (i : Nat) : VX x (i + 1) % 10 = x i := by
  have := h i
  show (10 * VX x i + x i) % 10 = x i
  omega
/-- Is what stands from i on less than f's n bytes? -/
def lessQ (g : Nat → Nat) (nd : Nat) (f : Nat → Nat) : Nat → Nat → Bool
  | 0, _ => false
  | d + 1, i => if nd ≤ i then true else if g i = f i then lessQ g nd f d (i + 1) else decide (g i < f i)
/-- What a cutoff is. -/
structure Cut5 (f : Nat → Nat) (n C : Nat) : Prop where
  lo : ∀ j, j < n → 48 ≤ f j
  hi : ∀ j, j < n → f j ≤ 57
  pos : 0 < n
  last : 49 ≤ f (n - 1)
  val : VX (ddg f n) n = C
theorem less_spec {g f : Nat → Nat} {nd n C : Nat} (h : OkG g nd) (hc : Cut5 f n C) :
    ∀ d i, d + i = n → VX (ddg g nd) i = VX (ddg f n) i → (lessQ g nd f d i = true → VX (ddg g nd) (nd + n) < VX (ddg f n) (nd + n)) ∧ (lessQ g nd f d i = false → VX (ddg f n) (nd + n) ≤ VX (ddg g nd) (nd + n)) := by
  have hx := h.ddg9
  have hy : ∀ j, ddg f n j ≤ 9 := fun j => by
    unfold ddg
    split
    · rename_i q; have := hc.hi j q; omega
    · omega
  intro d
  induction d with
  | zero =>
    intro i hi he
    refine ⟨fun q => by simp [lessQ] at q, fun _ => ?_⟩
    obtain rfl : i = n := by omega
    have h1 := VX_ge (ddg g nd) i nd
    have h2 := VX_tail (ddg f i) i (fun j hj => by unfold ddg; rw [if_neg (by omega)]) nd
    rw [Nat.add_comm nd i, h2, ← he]
    exact h1
  | succ d ih =>
    intro i hi he
    rw [lessQ]
    by_cases q1 : nd ≤ i
    · rw [if_pos q1]
      refine ⟨fun _ => ?_, fun q => by simp at q⟩
      have e1 : VX (ddg g nd) (nd + n) = VX (ddg g nd) i * 10 ^ (nd + n - i) := by
        have := VX_tail (ddg g nd) i (fun j hj => by unfold ddg; rw [if_neg (by omega)]) (nd + n - i)
        rwa [show i + (nd + n - i) = nd + n by omega] at this
      have e2 : VX (ddg f n) i * 10 ^ (n - 1 - i) ≤ VX (ddg f n) (n - 1) := by
        have := VX_ge (ddg f n) i (n - 1 - i)
        rwa [show i + (n - 1 - i) = n - 1 by omega] at this
      have e3 : VX (ddg f n) n = 10 * VX (ddg f n) (n - 1) + ddg f n (n - 1) := by
        obtain ⟨n', rfl⟩ : ∃ n', n = n' + 1 := ⟨n - 1, by omega⟩
        rfl
      have e4 : 1 ≤ ddg f n (n - 1) := by
        unfold ddg
        rw [if_pos (by omega)]
        have := hc.last
        omega
      have e5 : VX (ddg f n) n * 10 ^ nd ≤ VX (ddg f n) (nd + n) := by
        have := VX_ge (ddg f n) n nd
        rwa [Nat.add_comm n nd] at this
      have hp : 0 < 10 ^ nd := Nat.pow_pos (by decide)
      have e6 : VX (ddg f n) i * 10 ^ (n - i) < VX (ddg f n) n := by
        rw [e3, show n - i = (n - 1 - i) + 1 by omega, Nat.pow_succ, ← Nat.mul_assoc]
        omega
      rw [e1, he, show nd + n - i = (n - i) + nd by omega, Nat.pow_add, ← Nat.mul_assoc]
      exact Nat.lt_of_lt_of_le (Nat.mul_lt_mul_of_pos_right e6 hp) e5
    · rw [if_neg q1]
      have ed : ∀ x : Nat → Nat, VX x (i + 1) = 10 * VX x i + x i := fun _ => rfl
      have ex : ddg g nd i = g i - 48 := by unfold ddg; rw [if_pos (by omega)]
      have ey : ddg f n i = f i - 48 := by unfold ddg; rw [if_pos (by omega)]
      have l1 := h.lo i (by omega)
      have l2 := hc.lo i (by omega)
      by_cases q2 : g i = f i
      · rw [if_pos q2]
        exact ih (i + 1) (by omega) (by rw [ed, ed, ex, ey, he, q2])
      · rw [if_neg q2]
        have eM : i + 1 + (nd + n - (i + 1)) = nd + n := by omega
        refine ⟨fun q => ?_, fun q => ?_⟩
        · have q3 : g i < f i := of_decide_eq_true q
          have hl : VX (ddg g nd) (i + 1) + 1 ≤ VX (ddg f n) (i + 1) := by rw [ed, ed, ex, ey, he]; omega
          have a1 := VX_lt (ddg g nd) hx (i + 1) (nd + n - (i + 1))
          have a2 := VX_ge (ddg f n) (i + 1) (nd + n - (i + 1))
          rw [eM] at a1 a2
          exact Nat.lt_of_lt_of_le a1 (Nat.le_trans (Nat.mul_le_mul_right _ hl) a2)
        · have q3 : ¬ g i < f i := of_decide_eq_false q
          have hl : VX (ddg f n) (i + 1) + 1 ≤ VX (ddg g nd) (i + 1) := by rw [ed, ed, ex, ey, he]; omega
          have a1 := VX_lt (ddg f n) hy (i + 1) (nd + n - (i + 1))
          have a2 := VX_ge (ddg g nd) (i + 1) (nd + n - (i + 1))
          rw [eM] at a1 a2
          exact Nat.le_of_lt (Nat.lt_of_lt_of_le a1 (Nat.le_trans (Nat.mul_le_mul_right _ hl) a2))
/-- The bytes of a cutoff. -/
def ctf (k j : Nat) : Nat := ((cheat k).2.getD j 0).toNat
def ctn (k : Nat) : Nat := (cheat k).2.length
def okC (k : Nat) : Bool :=
  decide ((cheat k).1 + ctn k = k + 1) && decide (1 ≤ (cheat k).1) && decide (2 ^ k < 10 ^ (cheat k).1) && decide (10 ^ ((cheat k).1 - 1) ≤ 2 ^ k) &&
    ((cheat k).2.all fun c => decide (48 ≤ c.toNat ∧ c.toNat ≤ 57)) && decide (0 < ctn k) && decide (49 ≤ ctf k (ctn k - 1)) && decide (VX (ddg (ctf k) (ctn k)) (ctn k) = 5 ^ k)
theorem okC_all : ((List.range 60).all fun k => okC (k + 1)) = true := by decide +kernel
theorem okC_of (k : Nat) (h1 : 1 ≤ k) (h2 : k ≤ 60) : okC k = true := by
  have := List.all_eq_true.1 okC_all (k - 1) (by rw [List.mem_range]; omega)
  rwa [show k - 1 + 1 = k by omega] at this
structure Cht (k : Nat) : Prop where
  sum : (cheat k).1 + ctn k = k + 1
  one : 1 ≤ (cheat k).1
  lt : 2 ^ k < 10 ^ (cheat k).1
  ge : 10 ^ ((cheat k).1 - 1) ≤ 2 ^ k
  cut : Cut5 (ctf k) (ctn k) (5 ^ k)
theorem cht (k : Nat) (h1 : 1 ≤ k) (h2 : k ≤ 60) : Cht k := by
  have h := okC_of k h1 h2
  simp only [okC, Bool.and_eq_true, decide_eq_true_eq] at h
  obtain ⟨⟨⟨⟨⟨⟨⟨a, b⟩, c⟩, d⟩, e⟩, f⟩, gg⟩, i⟩ := h
  have hall : ∀ j, j < ctn k → 48 ≤ ctf k j ∧ ctf k j ≤ 57 := fun j hj => by
    have := List.all_eq_true.1 e ((cheat k).2.getD j 0) (by
      rw [List.getD_eq_getElem?_getD, List.getElem?_eq_getElem hj]
      exact List.getElem_mem hj)
    exact of_decide_eq_true this
  exact ⟨a, b, c, d, fun j hj => (hall j hj).1, fun j hj => (hall j hj).2, f, gg, i⟩
/-- How many digits a shift by k gives besides. -/
def dlt (g : Nat → Nat) (nd k : Nat) : Nat := if lessQ g nd (ctf k) (ctn k) 0 = true then (cheat k).1 - 1 else (cheat k).1
def valN (g : Nat → Nat) (nd : Nat) : Nat := VX (ddg g nd) nd
theorem valN_lt {g : Nat → Nat} {nd : Nat} (h : OkG g nd) : valN g nd < 10 ^ nd := by
  have := VX_lt (ddg g nd) h.ddg9 0 nd
  rw [Nat.zero_add] at this
  have e : (VX (ddg g nd) 0 + 1) * 10 ^ nd = 10 ^ nd := by rw [VX, Nat.zero_add, Nat.one_mul]
  rw [e] at this
  exact this
theorem valN_ge {g : Nat → Nat} {nd : Nat} (h : OkG g nd) (hn : 0 < nd) : 10 ^ (nd - 1) ≤ valN g nd := by
  have := Vr_big h hn (nd - 1)
  rwa [show nd - 1 + 1 = nd by omega, Vr_VX] at this
/-- There are just as many digits. -/
theorem dlt_spec {g : Nat → Nat} {nd k : Nat} (h : OkG g nd) (hn : 0 < nd) (h1 : 1 ≤ k) (h2 : k ≤ 60) :
    valN g nd * 2 ^ k < 10 ^ (nd + dlt g nd k) ∧ 10 ^ (nd + dlt g nd k - 1) ≤ valN g nd * 2 ^ k := by
  have c := cht k h1 h2
  have hs := less_spec h c.cut (ctn k) 0 (by omega) rfl
  have hlt := valN_lt h
  have hge := valN_ge h hn
  have eX : VX (ddg g nd) (nd + ctn k) = valN g nd * 10 ^ ctn k := VX_tail (ddg g nd) nd (fun j hj => by unfold ddg; rw [if_neg (by omega)]) (ctn k)
  have eY : VX (ddg (ctf k) (ctn k)) (nd + ctn k) = 5 ^ k * 10 ^ nd := by
    rw [Nat.add_comm, VX_tail (ddg (ctf k) (ctn k)) (ctn k) (fun j hj => by unfold ddg; rw [if_neg (by omega)]) nd, c.cut.val]
  rw [eX, eY] at hs
  have hsum := c.sum
  have hone := c.one
  have hk : k = ctn k + ((cheat k).1 - 1) := by omega
  have e10 : 5 ^ k * 10 ^ nd * 2 ^ k = 10 ^ (nd + ((cheat k).1 - 1)) * 10 ^ ctn k := by
    have e : (10 : Nat) ^ k = 5 ^ k * 2 ^ k := by rw [← Nat.mul_pow]
    rw [Nat.mul_right_comm, ← e, ← Nat.pow_add, ← Nat.pow_add]
    congr 1
    omega
  have hp2 := Nat.two_pow_pos k
  have hpc : 0 < 10 ^ ctn k := Nat.pow_pos (by decide)
  unfold dlt
  by_cases q : lessQ g nd (ctf k) (ctn k) 0 = true
  · rw [if_pos q]
    have hq := hs.1 q
    refine ⟨?_, ?_⟩
    · have := Nat.mul_lt_mul_of_pos_right hq hp2
      rw [e10, Nat.mul_right_comm] at this
      exact Nat.lt_of_mul_lt_mul_right this
    · rw [show nd + ((cheat k).1 - 1) - 1 = (nd - 1) + ((cheat k).1 - 1) by omega, Nat.pow_add]
      exact Nat.mul_le_mul hge c.ge
  · rw [if_neg q]
    have hq := hs.2 (by simpa using q)
    refine ⟨?_, ?_⟩
    · rw [Nat.pow_add]
      exact Nat.mul_lt_mul'' hlt c.lt
    · have := Nat.mul_le_mul_right (2 ^ k) hq
      rw [e10, Nat.mul_right_comm] at this
      rw [show nd + (cheat k).1 - 1 = nd + ((cheat k).1 - 1) by omega]
      exact Nat.le_of_mul_le_mul_right this hpc
end Go.Proofs.PlatenFigure

/- The digits that a shift to the left writes; strconv.prefixIsLessThan. -/
namespace Go.Proofs.PlatenFigure
open Go.RowKit
set_option linter.unusedVariables false
set_option linter.unusedSimpArgs false
set_option maxRecDepth 20000

/-- What is carried when m digits are written. -/
def nl (N k m : Nat) : Nat := (N % 10 ^ m) * 2 ^ k / 10 ^ m
/-- The digit m from the right. -/
def dgl (N k m : Nat) : Nat := N * 2 ^ k / 10 ^ m % 10
def gl (g : Nat → Nat) (N k E m j : Nat) : Nat := if E - m ≤ j ∧ j < E then 48 + dgl N k (E - 1 - j) else g j
def tls (N k E : Nat) (tr : Bool) : Nat → Bool
  | 0 => tr
  | m + 1 => tls N k E tr m || (decide (800 ≤ E - 1 - m) && decide (dgl N k m ≠ 0))
theorem dgl9 (N k m : Nat) : dgl N k m ≤ 9 := by
  have := Nat.mod_lt (N * 2 ^ k / 10 ^ m) (show 0 < 10 by decide)
  unfold dgl
  omega
theorem nl_lt (N k m : Nat) : nl N k m < 2 ^ k := by
  have hp : 0 < 10 ^ m := Nat.pow_pos (by decide)
  unfold nl
  rw [Nat.div_lt_iff_lt_mul hp, Nat.mul_comm]
  exact Nat.mul_lt_mul_of_pos_left (Nat.mod_lt _ hp) (Nat.two_pow_pos k)
theorem nl_all (N k m : Nat) : (N % 10 ^ (m + 1)) * 2 ^ k / 10 ^ m = nl N k m + (N / 10 ^ m % 10) * 2 ^ k := by
  have hp : 0 < 10 ^ m := Nat.pow_pos (by decide)
  rw [Nat.mod_pow_succ, Nat.add_mul, Nat.mul_assoc, Nat.add_mul_div_left _ _ hp]
  rfl
theorem nl_quo (N k m : Nat) : (nl N k m + (N / 10 ^ m % 10) * 2 ^ k) / 10 = nl N k (m + 1) := by
  rw [← nl_all, Nat.div_div_eq_div_mul]
  rfl
theorem nl_rem (N k m : Nat) : (nl N k m + (N / 10 ^ m % 10) * 2 ^ k) % 10 = dgl N k m := by
  have hp : 0 < 10 ^ m := Nat.pow_pos (by decide)
  rw [← nl_all]
  have e : N * 2 ^ k = N % 10 ^ (m + 1) * 2 ^ k + 10 ^ m * (10 * (N / 10 ^ (m + 1) * 2 ^ k)) := by
    have h := Nat.mod_add_div N (10 ^ (m + 1))
    have h2 : 10 ^ m * (10 * (N / 10 ^ (m + 1) * 2 ^ k)) = 10 ^ (m + 1) * (N / 10 ^ (m + 1)) * 2 ^ k := by
      rw [Nat.pow_succ]; simp only [Nat.mul_assoc]
    rw [h2, ← Nat.add_mul, h]
  unfold dgl
  rw [e, Nat.add_mul_div_left _ _ hp]
  omega
theorem nl_late {N nd m : Nat} (k : Nat) (h : N < 10 ^ nd) (hm : nd ≤ m) : nl N k m = N * 2 ^ k / 10 ^ m := by
  unfold nl
  rw [Nat.mod_eq_of_lt (Nat.lt_of_lt_of_le h (Nat.pow_le_pow_right (by decide) hm))]
theorem nl_late_quo {N nd m : Nat} (k : Nat) (h : N < 10 ^ nd) (hm : nd ≤ m) : nl N k m / 10 = nl N k (m + 1) := by
  rw [nl_late k h hm, nl_late k h (by omega : nd ≤ m + 1), Nat.div_div_eq_div_mul]
  rfl
theorem nl_late_rem {N nd m : Nat} (k : Nat) (h : N < 10 ^ nd) (hm : nd ≤ m) : nl N k m % 10 = dgl N k m := by
  rw [nl_late k h hm]; rfl
theorem nl_late_zero {N nd k E m : Nat} (h : N < 10 ^ nd) (hm : nd ≤ m) (hE : N * 2 ^ k < 10 ^ E) (h0 : E ≤ m) : nl N k m = 0 := by
  rw [nl_late k h hm]
  exact Nat.div_eq_of_lt (Nat.lt_of_lt_of_le hE (Nat.pow_le_pow_right (by decide) h0))
theorem nl_late_pos {N nd k E m : Nat} (h : N < 10 ^ nd) (hm : nd ≤ m) (hE : 10 ^ (E - 1) ≤ N * 2 ^ k) (h0 : m < E) : 0 < nl N k m := by
  rw [nl_late k h hm]
  exact Nat.div_pos (Nat.le_trans (Nat.pow_le_pow_right (by decide) (by omega)) hE) (Nat.pow_pos (by decide))
theorem dgl_first {N k E : Nat} (h1 : N * 2 ^ k < 10 ^ E) (h2 : 10 ^ (E - 1) ≤ N * 2 ^ k) (hE : 0 < E) : 1 ≤ dgl N k (E - 1) := by
  have hp : 0 < 10 ^ (E - 1) := Nat.pow_pos (by decide)
  have a1 : 1 ≤ N * 2 ^ k / 10 ^ (E - 1) := (Nat.le_div_iff_mul_le hp).2 (by rw [Nat.one_mul]; exact h2)
  have a2 : N * 2 ^ k / 10 ^ (E - 1) < 10 := (Nat.div_lt_iff_lt_mul hp).2 (by
    have e : 10 * 10 ^ (E - 1) = 10 ^ E := by
      obtain ⟨E', rfl⟩ : ∃ E', E = E' + 1 := ⟨E - 1, by omega⟩
      rw [show E' + 1 - 1 = E' by omega, Nat.pow_succ, Nat.mul_comm]
    rw [e]; exact h1)
  unfold dgl
  omega
theorem valN_digit {g : Nat → Nat} {nd m : Nat} (h : OkG g nd) (hm : m < nd) : valN g nd / 10 ^ m % 10 = g (nd - 1 - m) - 48 := by
  have e : valN g nd / 10 ^ m = VX (ddg g nd) (nd - m) := by
    have := VX_div (ddg g nd) h.ddg9 (nd - m) m
    rwa [show nd - m + m = nd by omega] at this
  rw [e, show nd - m = (nd - 1 - m) + 1 by omega, VX_mod (ddg g nd) h.ddg9, ddg, if_pos (by omega)]
theorem gl_zero (g : Nat → Nat) (N k E : Nat) : gl g N k E 0 = g := by
  funext j
  unfold gl
  rw [if_neg (by omega)]
theorem gl_step (g : Nat → Nat) (N k E m : Nat) (hm : m < E) : gl g N k E (m + 1) = upd (gl g N k E m) (E - 1 - m) (48 + dgl N k m) := by
  funext j
  unfold upd gl
  by_cases q : j = E - 1 - m
  · subst q
    rw [if_pos (by omega), if_pos rfl, show E - 1 - (E - 1 - m) = m by omega]
  · rw [if_neg q]
    by_cases q2 : E - m ≤ j ∧ j < E
    · rw [if_pos (by omega), if_pos q2]
    · rw [if_neg (by omega), if_neg q2]
theorem gl_lt {g : Nat → Nat} (N k E m : Nat) (hb : ∀ j, g j < 256) (j : Nat) : gl g N k E m j < 256 := by
  unfold gl
  split
  · have := dgl9 N k (E - 1 - j); omega
  · exact hb j
theorem gl_ok {g : Nat → Nat} {N k E : Nat} (h1 : N * 2 ^ k < 10 ^ E) (h2 : 10 ^ (E - 1) ≤ N * 2 ^ k) (hE : 0 < E) :
    OkG (gl g N k E E) (trimN (gl g N k E E) (min E 800)) ∧ 0 < trimN (gl g N k E E) (min E 800) := by
  have hle := trimN_le (gl g N k E E) (min E 800)
  have hf := dgl_first h1 h2 hE
  have h0 : gl g N k E E 0 ≠ 48 := by
    unfold gl
    rw [if_pos (by omega), show E - 1 - 0 = E - 1 by omega]
    omega
  refine ⟨⟨by omega, fun j hj => ?_, fun j hj => ?_, fun _ => h0⟩, trimN_same _ _ h0 (by omega)⟩
  · unfold gl; rw [if_pos (by omega)]; omega
  · unfold gl; rw [if_pos (by omega)]; have := dgl9 N k (E - 1 - j); omega
theorem drew2 (w : World) (a b : Nat) : (w.drewN a).drewN b = w.drewN (a + b) := by
  unfold World.drewN
  simp only [Nat.add_assoc]
theorem drew3 (w : World) (a b c : Nat) : ∃ q, ((w.drewN a).drewN b).drewN c = w.drewN q := ⟨a + (b + c), by rw [drew2, drew2]⟩
set_option maxHeartbeats 2000000 in
theorem lessP_any (s : ByteArray) (w : World) (K nd : Nat) (g : Nat → Nat) (hnd : nd ≤ 800) (hs : s.size ≤ 100) (hg : ∀ j, g j < 256)
    (hcell : ∀ j, j < 800 → w.cell? ⟨K, j, none⟩ = some (.int .u8 (g j : Nat))) :
    Calls Tryz.prog 131 #[.slice (some ⟨K, 0, none⟩) nd 800, .string s] w fun e w' => e = .returned (.bool (lessQ g nd (fun j => ((L s).getD j 0).toNat) s.size 0)) ∧ ∃ m, w' = w.drewN m := by
  have HC := hidden' hcell
  have HG := hidden' hg
  clear hcell hg
  generalize hX : lessQ g nd (fun j => ((L s).getD j 0).toNat) s.size 0 = X
  have HX := hidden' hX
  clear hX
  go_enter Tryz.func131, Tryz.ntmps131
  go_wp2_with fail
  go_loopw [5] (fun i wr => ∃ k : Nat, k ≤ s.size ∧ i = .int .i64 k ∧ lessQ g nd (fun j => ((L s).getD j 0).toNat) (s.size - k) k = X ∧ ∃ m, wr = w.drewN m) (fun i _ => s.size - (intOf i).toNat)
  case atStart => exact ⟨0, Nat.zero_le _, rfl, HX.out, 0, rfl⟩
  case round =>
    obtain ⟨k, hk, rfl, he, m, rfl⟩ := hrel
    clear HX
    by_cases hlt : k < s.size
    · have hsub : s.size - k = (s.size - (k + 1)) + 1 := by omega
      rw [hsub, lessQ] at he
      by_cases q1 : nd ≤ k
      · rw [if_pos q1] at he
        subst he
        clear hsub
        go_wp2_with fail
        go_ret
        exact ⟨rfl, m, rfl⟩
      · rw [if_neg q1] at he
        have hc := HC.out k (by omega)
        have hgk := HG.out k
        have hg2 := get_L s k hlt
        generalize hd : (L s).getD k 0 = d at *
        clear hd
        have hf := d.toNat_lt
        by_cases q2 : g k = d.toNat
        · rw [if_pos q2] at he
          have He := hidden' he
          clear he hsub
          rw [q2] at hc hgk
          clear q2
          go_wp2_with fail
          go_quiet (fail)
          go_wp2_with fail
          exact ⟨⟨k + 1, hlt, by go_num, He.out, _, rfl⟩, by simp [intOf]; omega⟩
        · rw [if_neg q2] at he
          have hne : (((g k : Nat) : Int) != ((d.toNat : Nat) : Int)) = true := by simp only [bne_iff_ne, ne_eq]; omega
          have HE := hidden' he
          clear he hsub q2
          generalize g k = c at *
          go_wp2_with fail
          go_quiet (fail)
          go_wp2_with fail
          go_quiet (fail)
          go_wp2_with fail
          go_ret
          exact ⟨by rw [← HE.out]; simp, drew3 w m _ _⟩
    · obtain rfl : k = s.size := by omega
      rw [Nat.sub_self, lessQ] at he
      subst he
      go_wp2_with fail
      go_ret
      exact ⟨rfl, m, rfl⟩
end Go.Proofs.PlatenFigure
