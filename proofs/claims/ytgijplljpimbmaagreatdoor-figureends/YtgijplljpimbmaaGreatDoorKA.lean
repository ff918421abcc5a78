/- strconv's decimal in memory; what trim comes to. -/
import Derived.Test.YtgijplljpimbmaaGreatDoorFgXh
import Derived.Deep.RegionHeld3
namespace Go.Proofs.PlatenFigure
open Go.RowKit
set_option linter.unusedVariables false
set_option linter.unusedSimpArgs false
set_option maxRecDepth 20000

theorem frozen_row (w : World) (b j : Nat) (cs : Array Value) (t : TypeId) (h : w.heap[b]? = some (.cells cs t (0, 0))) : w.frozen? ⟨b, j, none⟩ = false := frozen_of_row w b j cs t h
/-- A decimal at block K: its bytes, how many are digits, where the point is, its sign, whether something was cut off. -/
structure Dc (B K : Nat) (w0 w : World) (g : Nat → Nat) (nd : Nat) (dp : Int) (neg tr : Bool) : Prop where
  low : B ≤ K
  head : ∃ cs, w.heap[K]? = some (.cells cs 98 (0, 0))
  gb : ∀ j, g j < 256
  cell : ∀ j, j < 800 → w.cell? ⟨K, j, none⟩ = some (.int .u8 (g j : Nat))
  c0 : w.cell? ⟨K, 800, none⟩ = some (.int .i64 (nd : Nat))
  c1 : w.cell? ⟨K, 801, none⟩ = some (.int .i64 dp)
  c2 : w.cell? ⟨K, 802, none⟩ = some (.bool neg)
  c3 : w.cell? ⟨K, 803, none⟩ = some (.bool tr)
  bel : Below B w0 w
def upd (g : Nat → Nat) (i c : Nat) (j : Nat) : Nat := if j = i then c else g j
section
variable {B K : Nat} {w0 w : World} {g : Nat → Nat} {nd : Nat} {dp : Int} {neg tr : Bool}
theorem Dc.free (h : Dc B K w0 w g nd dp neg tr) (j : Nat) : w.frozen? ⟨K, j, none⟩ = false := by
  obtain ⟨cs, h⟩ := h.head
  exact frozen_row w K j cs 98 h
theorem Dc.lt (h : Dc B K w0 w g nd dp neg tr) : K < w.heap.size := by
  obtain ⟨cs, h⟩ := h.head
  exact (Array.getElem?_eq_some_iff.1 h).1
theorem Dc.bs (h : Dc B K w0 w g nd dp neg tr) : B ≤ w.heap.size := Nat.le_trans h.low (Nat.le_of_lt h.lt)
theorem Dc.head_set (h : Dc B K w0 w g nd dp neg tr) (i : Nat) (v : Value) : ∃ cs, (w.setCell ⟨K, i, none⟩ v).heap[K]? = some (.cells cs 98 (0, 0)) := by
  obtain ⟨cs, h⟩ := h.head
  exact ⟨_, heap_setCell_same w K i cs 98 v h⟩
theorem far {K i j : Nat} (h : j ≠ i) (v : Value) : (w.setCell ⟨K, i, none⟩ v).cell? ⟨K, j, none⟩ = w.cell? ⟨K, j, none⟩ :=
  World.cell?_setCell_other w _ _ _ (fun e => h (by injection e with _ q _; exact q.symm))
theorem Dc.put (h : Dc B K w0 w g nd dp neg tr) {i c : Nat} (hi : i < 800) (hc : c < 256) : Dc B K w0 (w.setCell ⟨K, i, none⟩ (.int .u8 (c : Nat))) (upd g i c) nd dp neg tr where
  low := h.low
  head := h.head_set i _
  gb := fun j => by unfold upd; split; exact hc; exact h.gb j
  cell := fun j hj => by
    unfold upd
    by_cases q : j = i
    · subst q; rw [if_pos rfl]; exact World.cell?_setCell_same _ _ _ (h.cell j hj)
    · rw [if_neg q, far q]; exact h.cell j hj
  c0 := by rw [far (by omega)]; exact h.c0
  c1 := by rw [far (by omega)]; exact h.c1
  c2 := by rw [far (by omega)]; exact h.c2
  c3 := by rw [far (by omega)]; exact h.c3
  bel := h.bel.setCell (p := ⟨K, i, none⟩) h.low _
theorem Dc.setNd (h : Dc B K w0 w g nd dp neg tr) (n : Nat) : Dc B K w0 (w.setCell ⟨K, 800, none⟩ (.int .i64 (n : Nat))) g n dp neg tr where
  low := h.low
  head := h.head_set _ _
  gb := h.gb
  cell := fun j hj => by rw [far (by omega)]; exact h.cell j hj
  c0 := World.cell?_setCell_same _ _ _ h.c0
  c1 := by rw [far (by omega)]; exact h.c1
  c2 := by rw [far (by omega)]; exact h.c2
  c3 := by rw [far (by omega)]; exact h.c3
  bel := h.bel.setCell (p := ⟨K, 800, none⟩) h.low _
theorem Dc.setDp (h : Dc B K w0 w g nd dp neg tr) (n : Int) : Dc B K w0 (w.setCell ⟨K, 801, none⟩ (.int .i64 n)) g nd n neg tr where
  low := h.low
  head := h.head_set _ _
  gb := h.gb
  cell := fun j hj => by rw [far (by omega)]; exact h.cell j hj
  c0 := by rw [far (by omega)]; exact h.c0
  c1 := World.cell?_setCell_same _ _ _ h.c1
  c2 := by rw [far (by omega)]; exact h.c2
  c3 := by rw [far (by omega)]; exact h.c3
  bel := h.bel.setCell (p := ⟨K, 801, none⟩) h.low _
theorem Dc.setNeg (h : Dc B K w0 w g nd dp neg tr) (n : Bool) : Dc B K w0 (w.setCell ⟨K, 802, none⟩ (.bool n)) g nd dp n tr where
  low := h.low
  head := h.head_set _ _
  gb := h.gb
  cell := fun j hj => by rw [far (by omega)]; exact h.cell j hj
  c0 := by rw [far (by omega)]; exact h.c0
  c1 := by rw [far (by omega)]; exact h.c1
  c2 := World.cell?_setCell_same _ _ _ h.c2
  c3 := by rw [far (by omega)]; exact h.c3
  bel := h.bel.setCell (p := ⟨K, 802, none⟩) h.low _
theorem Dc.setTr (h : Dc B K w0 w g nd dp neg tr) (n : Bool) : Dc B K w0 (w.setCell ⟨K, 803, none⟩ (.bool n)) g nd dp neg n where
  low := h.low
  head := h.head_set _ _
  gb := h.gb
  cell := fun j hj => by rw [far (by omega)]; exact h.cell j hj
  c0 := by rw [far (by omega)]; exact h.c0
  c1 := by rw [far (by omega)]; exact h.c1
  c2 := by rw [far (by omega)]; exact h.c2
  c3 := World.cell?_setCell_same _ _ _ h.c3
  bel := h.bel.setCell (p := ⟨K, 803, none⟩) h.low _
theorem Dc.drewN (h : Dc B K w0 w g nd dp neg tr) (q : Nat) : Dc B K w0 (w.drewN q) g nd dp neg tr :=
  ⟨h.low, h.head, h.gb, h.cell, h.c0, h.c1, h.c2, h.c3, below_drewN h.bel q⟩
end
/-- How many digits are left without the noughts at the end. -/
def trimN (g : Nat → Nat) : Nat → Nat
  | 0 => 0
  | n + 1 => if g n = 48 then trimN g n else n + 1
theorem trimN_le (g : Nat → Nat) : ∀ n, trimN g n ≤ n
  | 0 => Nat.le_refl _
  | n + 1 => by
    unfold trimN
    split
    · have := trimN_le g n; omega
    · omega
def trimP (g : Nat → Nat) (nd : Nat) (dp : Int) : Int := if trimN g nd = 0 then 0 else dp
/-- How many digits there are, as the world has it. -/
def ndOf (K : Nat) (w : World) : Nat := (intOf ((w.cell? ⟨K, 800, none⟩).getD undef)).toNat
theorem Dc.nd_eq {B K : Nat} {w0 w : World} {g : Nat → Nat} {nd : Nat} {dp : Int} {neg tr : Bool} (h : Dc B K w0 w g nd dp neg tr) : ndOf K w = nd := by simp [ndOf, h.c0, intOf]
def DcE (B K : Nat) (w0 : World) (g : Nat → Nat) (nd : Nat) (dp : Int) (neg tr : Bool) (e : Ending) (w' : World) : Prop := e = .returned (.tuple #[]) ∧ Dc B K w0 w' g nd dp neg tr
set_option maxHeartbeats 4000000 in
theorem trim_any {B K : Nat} {w0 w : World} {g : Nat → Nat} {nd : Nat} {dp : Int} {neg tr : Bool} (h : Dc B K w0 w g nd dp neg tr) (hn : nd ≤ 800) :
    Calls Tryz.prog 114 #[.pointer (some ⟨K, 0, none⟩)] w (DcE B K w0 g (trimN g nd) (trimP g nd dp) neg tr) := by
  have H := hidden' h
  clear h
  go_enter Tryz.func114, Tryz.ntmps114
  go_wp2_with fail
  go_loopw [] (fun wr => ∃ k, k ≤ nd ∧ trimN g nd = trimN g k ∧ Dc B K w0 wr g k dp neg tr) (fun wr => ndOf K wr)
  case atStart => exact ⟨nd, Nat.le_refl _, rfl, H.out⟩
  case round =>
    obtain ⟨k, hk, he, h⟩ := hrel
    clear H
    have H := hidden' h
    have He := hidden' he
    have c0 := h.c0
    have f0 := h.free 800
    have hm := h.nd_eq
    have Hm := hidden' hm
    clear he hm
    cases k with
    | zero =>
      have c1 := h.c1
      have f1 := h.free 801
      have HD := hidden' (fun q => (h.drewN q).setDp 0)
      have c0' : wr.cell? ⟨K, 800, none⟩ = some (.int .i64 0) := c0
      clear h c0
      go_wp2_with fail
      go_quiet (fail)
      go_wp2_with fail
      go_end0
      have Ht : trimN g nd = 0 := He.out
      unfold trimP
      rw [Ht]
      exact ⟨rfl, HD.out nq⟩
    | succ k =>
      have hkz : (0 : Int) < ((k + 1 : Nat) : Int) := by omega
      have ek : ((k + 1 : Nat) : Int) - 1 = (k : Int) := by omega
      have hk8 : (k : Int) < 800 := by omega
      have hcell := h.cell k (by omega)
      have hgb := h.gb k
      have HD := hidden' (fun q => (h.drewN q).setNd k)
      by_cases q : g k = 48
      · have hz : (((g k : Nat) : Int) == 48) = true := by simp; omega
        have Ht : Hid (trimN g (k + 1) = trimN g k) := by unfold Hid; rw [trimN, if_pos q]
        clear h q
        generalize hK1 : ((k + 1 : Nat) : Int) = K1 at *
        generalize g k = c at *
        go_wp2_with fail
        go_quiet (fail)
        go_wp2_with fail
        go_roundw
        case rel => exact ⟨k, by omega, He.out.trans Ht.out, HD.out nq⟩
        case measure => rw [Dc.nd_eq (HD.out nq), Hm.out]; omega
      · have hz : (((g k : Nat) : Int) == 48) = false := by simp; omega
        have Ht : Hid (trimN g (k + 1) = k + 1) := by unfold Hid; rw [trimN, if_neg q]
        have hK0 : ((((k + 1 : Nat) : Int)) == 0) = false := by simp; omega
        clear h q
        generalize hK1 : ((k + 1 : Nat) : Int) = K1 at *
        generalize g k = c at *
        go_wp2_with fail
        go_quiet (fail)
        go_wp2_with fail
        go_end0
        unfold trimP
        rw [He.out, Ht.out, if_neg (by omega)]
        exact ⟨rfl, H.out.drewN _⟩
end Go.Proofs.PlatenFigure

/- What a decimal is shifted to the right: plain mathematics. -/
namespace Go.Proofs.PlatenFigure

/-- The digits are digits, and the first isn't nought. -/
structure OkG (g : Nat → Nat) (nd : Nat) : Prop where
  le : nd ≤ 800
  lo : ∀ j, j < nd → 48 ≤ g j
  hi : ∀ j, j < nd → g j ≤ 57
  first : 0 < nd → g 0 ≠ 48
def ddg (g : Nat → Nat) (nd j : Nat) : Nat := if j < nd then g j - 48 else 0
theorem OkG.ddg9 {g : Nat → Nat} {nd : Nat} (h : OkG g nd) (j : Nat) : ddg g nd j ≤ 9 := by
  unfold ddg
  split
  · rename_i q; have := h.hi j q; omega
  · omega
theorem trimN_same (g : Nat → Nat) : ∀ n, g 0 ≠ 48 → 0 < n → 0 < trimN g n
  | 0, _, h => absurd h (by omega)
  | n + 1, h0, _ => by
    unfold trimN
    split
    · rename_i q
      have hn : 0 < n := by
        rcases Nat.eq_zero_or_pos n with z | z
        · subst z; exact absurd q h0
        · exact z
      exact trimN_same g n h0 hn
    · omega
/-- What the first r digits say. -/
def Vr (g : Nat → Nat) (nd : Nat) : Nat → Nat
  | 0 => 0
  | r + 1 => 10 * Vr g nd r + ddg g nd r
theorem Vr_big {g : Nat → Nat} {nd : Nat} (h : OkG g nd) (hn : 0 < nd) : ∀ r, 10 ^ r ≤ Vr g nd (r + 1)
  | 0 => by
    have h1 := h.lo 0 hn
    have h2 := h.first hn
    show 10 ^ 0 ≤ 10 * 0 + ddg g nd 0
    unfold ddg
    rw [if_pos hn]
    omega
  | r + 1 => by
    have := Vr_big h hn r
    show 10 ^ (r + 1) ≤ 10 * Vr g nd (r + 1) + _
    rw [Nat.pow_succ]
    omega
theorem least_of (p : Nat → Prop) [DecidablePred p] : ∀ n, p n → ∃ r, r ≤ n ∧ p r ∧ ∀ j, j < r → ¬ p j := by
  intro n
  induction n using Nat.strongRecOn with
  | ind n ih =>
    intro hp
    by_cases q : ∃ j, j < n ∧ p j
    · obtain ⟨j, hj, hpj⟩ := q
      obtain ⟨r, h1, h2, h3⟩ := ih j hj hpj
      exact ⟨r, by omega, h2, h3⟩
    · exact ⟨n, Nat.le_refl _, hp, fun j hj hc => q ⟨j, hj, hc⟩⟩
/-- How many digits cover the first step. -/
structure Pick (g : Nat → Nat) (nd k r : Nat) : Prop where
  ge : 2 ^ k ≤ Vr g nd r
  lt : ∀ j, j < r → Vr g nd j < 2 ^ k
  pos : 0 < r
  le : r ≤ 20
theorem pick_is {g : Nat → Nat} {nd k : Nat} (h : OkG g nd) (hn : 0 < nd) (hk : k ≤ 60) : ∃ r, Pick g nd k r := by
  have h20 : 2 ^ k ≤ Vr g nd 20 := Nat.le_trans (Nat.le_trans (Nat.pow_le_pow_right (by decide) hk) (by decide : 2 ^ 60 ≤ 10 ^ 19)) (Vr_big h hn 19)
  obtain ⟨r, h1, h2, h3⟩ := least_of (fun r => 2 ^ k ≤ Vr g nd r) 20 h20
  refine ⟨r, h2, fun j hj => Nat.lt_of_not_le (h3 j hj), ?_, h1⟩
  rcases Nat.eq_zero_or_pos r with z | z
  · subst z
    have := Nat.two_pow_pos k
    have h2' : 2 ^ k ≤ 0 := h2
    omega
  · exact z
/-- What is at hand when i digits have been put down. -/
def ns (g : Nat → Nat) (nd k r : Nat) : Nat → Nat
  | 0 => Vr g nd r
  | i + 1 => (ns g nd k r i % 2 ^ k) * 10 + ddg g nd (r + i)
theorem ns_lt {g : Nat → Nat} {nd k r : Nat} (h : OkG g nd) (hp : Pick g nd k r) : ∀ i, ns g nd k r i < 10 * 2 ^ k
  | 0 => by
    obtain ⟨r', rfl⟩ : ∃ r', r = r' + 1 := ⟨r - 1, by have := hp.pos; omega⟩
    have h1 := hp.lt r' (by omega)
    have h2 := h.ddg9 r'
    show 10 * Vr g nd r' + ddg g nd r' < _
    omega
  | i + 1 => by
    have h1 := Nat.mod_lt (ns g nd k r i) (Nat.two_pow_pos k)
    have h2 := h.ddg9 (r + i)
    show (ns g nd k r i % 2 ^ k) * 10 + ddg g nd (r + i) < _
    omega
def dgs (g : Nat → Nat) (nd k r i : Nat) : Nat := ns g nd k r i / 2 ^ k
theorem dgs_le {g : Nat → Nat} {nd k r : Nat} (h : OkG g nd) (hp : Pick g nd k r) (i : Nat) : dgs g nd k r i ≤ 9 := by
  have h1 := ns_lt h hp i
  have : dgs g nd k r i < 10 := (Nat.div_lt_iff_lt_mul (Nat.two_pow_pos k)).2 (by omega)
  omega
theorem dgs_zero {g : Nat → Nat} {nd k r : Nat} (hp : Pick g nd k r) : 1 ≤ dgs g nd k r 0 := (Nat.le_div_iff_mul_le (Nat.two_pow_pos k)).2 (by rw [Nat.one_mul]; exact hp.ge)
/-- Behind the digits what is at hand is even, and more so each time. -/
theorem ns_even (g : Nat → Nat) (nd k r m : Nat) (hm : nd ≤ r + m) : ∀ j, j ≤ k → 2 ^ j ∣ ns g nd k r (m + j)
  | 0, _ => by rw [Nat.pow_zero]; exact Nat.one_dvd _
  | j + 1, hj => by
    have ih := ns_even g nd k r m hm j (by omega)
    show 2 ^ (j + 1) ∣ (ns g nd k r (m + j) % 2 ^ k) * 10 + ddg g nd (r + (m + j))
    rw [show ddg g nd (r + (m + j)) = 0 by unfold ddg; rw [if_neg (by omega)], Nat.add_zero]
    have h1 : 2 ^ j ∣ ns g nd k r (m + j) % 2 ^ k := (Nat.dvd_mod_iff (Nat.pow_dvd_pow 2 (by omega))).2 ih
    rw [Nat.pow_succ]
    exact Nat.mul_dvd_mul h1 (by decide)
theorem ns_end (g : Nat → Nat) (nd k r m : Nat) (hm : nd ≤ r + m) : ns g nd k r (m + k + 1) = 0 := by
  have h1 := ns_even g nd k r m hm k (Nat.le_refl _)
  show (ns g nd k r (m + k) % 2 ^ k) * 10 + ddg g nd (r + (m + k)) = 0
  rw [Nat.mod_eq_zero_of_dvd h1, show ddg g nd (r + (m + k)) = 0 by unfold ddg; rw [if_neg (by omega)]]
/-- How many digits are put down. -/
structure Stop (g : Nat → Nat) (nd k r m : Nat) : Prop where
  ge : nd - r ≤ m
  zero : ns g nd k r m = 0
  more : ∀ j, nd - r ≤ j → j < m → ns g nd k r j ≠ 0
  le : m ≤ nd - r + k + 1
theorem stop_is (g : Nat → Nat) (nd k r : Nat) : ∃ m, Stop g nd k r m := by
  obtain ⟨m, h1, h2, h3⟩ := least_of (fun m => nd - r ≤ m ∧ ns g nd k r m = 0) (nd - r + k + 1) ⟨by omega, ns_end g nd k r (nd - r) (by omega)⟩
  exact ⟨m, h2.1, h2.2, fun j hj hm hz => h3 j hm ⟨hj, hz⟩, h1⟩
theorem Stop.pos {g : Nat → Nat} {nd k r m : Nat} (hs : Stop g nd k r m) (hp : Pick g nd k r) : 0 < m := by
  rcases Nat.eq_zero_or_pos m with z | z
  · subst z
    have h1 := hs.zero
    have h2 := hp.ge
    have h3 := Nat.two_pow_pos k
    have h1' : Vr g nd r = 0 := h1
    omega
  · exact z
/-- The digits when i have been put down. -/
def gs (g : Nat → Nat) (nd k r i j : Nat) : Nat := if j < i then 48 + dgs g nd k r j else g j
def tgs (g : Nat → Nat) (nd k r : Nat) (tr : Bool) : Nat → Bool
  | 0 => tr
  | i + 1 => tgs g nd k r tr i || (decide (800 ≤ i) && decide (0 < dgs g nd k r i))
theorem gs_ok {g : Nat → Nat} {nd k r m : Nat} (h : OkG g nd) (hp : Pick g nd k r) (hs : Stop g nd k r m) : OkG (gs g nd k r m) (trimN (gs g nd k r m) (min m 800)) := by
  have hle := trimN_le (gs g nd k r m) (min m 800)
  have hm := hs.pos hp
  refine ⟨by omega, fun j hj => ?_, fun j hj => ?_, fun _ => ?_⟩
  · unfold gs; rw [if_pos (by omega)]; omega
  · unfold gs; rw [if_pos (by omega)]; have := dgs_le h hp j; omega
  · unfold gs; rw [if_pos hm]; have := dgs_zero hp; omega
theorem gs_pos {g : Nat → Nat} {nd k r m : Nat} (hp : Pick g nd k r) (hs : Stop g nd k r m) : 0 < trimN (gs g nd k r m) (min m 800) := by
  have hm := hs.pos hp
  exact trimN_same _ _ (by unfold gs; rw [if_pos hm]; have := dgs_zero hp; omega) (by omega)
theorem gs_step (g : Nat → Nat) (nd k r i : Nat) : gs g nd k r (i + 1) = upd (gs g nd k r i) i (48 + dgs g nd k r i) := by
  funext j
  unfold upd gs
  by_cases q : j = i
  · subst q; rw [if_pos (by omega), if_pos rfl]
  · rw [if_neg q]
    by_cases q2 : j < i
    · rw [if_pos (by omega), if_pos q2]
    · rw [if_neg (by omega), if_neg q2]
theorem gs_zero (g : Nat → Nat) (nd k r : Nat) : gs g nd k r 0 = g := by
  funext j; unfold gs; rw [if_neg (by omega)]
/-- How many steps are left, when the digits are used up. -/
def fz (k n : Nat) : Nat := n % 2 ^ k * 10
def itc (k : Nat) : Nat → Nat → Nat
  | 0, _ => 0
  | f + 1, n => if n = 0 then 0 else 1 + itc k f (fz k n)
def rch (k : Nat) : Nat → Nat → Prop
  | 0, n => n = 0
  | f + 1, n => rch k f (fz k n)
theorem fz_zero (k : Nat) : fz k 0 = 0 := by unfold fz; rw [Nat.zero_mod]
theorem rch_succ (k : Nat) : ∀ f n, rch k f n → rch k (f + 1) n
  | 0, n, h => by
    have h' : n = 0 := h
    subst h'
    exact fz_zero k
  | f + 1, n, h => rch_succ k f (fz k n) h
theorem rch_le (k n : Nat) : ∀ d f, rch k f n → rch k (f + d) n
  | 0, _, h => h
  | d + 1, f, h => rch_succ k (f + d) n (rch_le k n d f h)
theorem itc_same (k : Nat) : ∀ f n, rch k f n → itc k (f + 1) n = itc k f n
  | 0, n, h => by
    have h' : n = 0 := h
    subst h'
    rfl
  | f + 1, n, h => by
    have e1 : itc k (f + 1 + 1) n = if n = 0 then 0 else 1 + itc k (f + 1) (fz k n) := rfl
    have e2 : itc k (f + 1) n = if n = 0 then 0 else 1 + itc k f (fz k n) := rfl
    rw [e1, e2, itc_same k f (fz k n) h]
theorem itc_dec (k n f : Nat) (hn : n ≠ 0) (h : rch k f (fz k n)) : itc k (f + 1) (fz k n) < itc k (f + 1) n := by
  rw [itc_same k f (fz k n) h]
  have : itc k (f + 1) n = 1 + itc k f (fz k n) := by rw [itc, if_neg hn]
  omega
theorem ns_fz (g : Nat → Nat) (nd k r i : Nat) (h : nd - r ≤ i) : ns g nd k r (i + 1) = fz k (ns g nd k r i) := by
  rw [ns, ddg, if_neg (by omega)]; rfl
theorem ns_rch (g : Nat → Nat) (nd k r : Nat) : ∀ j i, nd - r ≤ i → ns g nd k r (i + j) = 0 → rch k j (ns g nd k r i)
  | 0, _, _, hz => hz
  | j + 1, i, h, hz => by
    show rch k j (fz k (ns g nd k r i))
    rw [← ns_fz g nd k r i h]
    exact ns_rch g nd k r j (i + 1) (by omega) (by rw [show i + 1 + j = i + (j + 1) by omega]; exact hz)
theorem Stop.dec {g : Nat → Nat} {nd k r m : Nat} (hs : Stop g nd k r m) (hk : k ≤ 60) (i : Nat) (h : nd - r ≤ i) (him : i < m) : itc k 100 (ns g nd k r (i + 1)) < itc k 100 (ns g nd k r i) := by
  have h1 := hs.more i h him
  have h2 := ns_rch g nd k r (m - (i + 1)) (i + 1) (by omega) (by rw [show i + 1 + (m - (i + 1)) = m by omega]; exact hs.zero)
  have h3 := hs.le
  have h4 := rch_le k _ (99 - (m - (i + 1))) _ h2
  rw [show m - (i + 1) + (99 - (m - (i + 1))) = 99 by omega] at h4
  rw [ns_fz g nd k r i h] at h4 ⊢
  exact itc_dec k _ 99 h1 h4
end Go.Proofs.PlatenFigure
