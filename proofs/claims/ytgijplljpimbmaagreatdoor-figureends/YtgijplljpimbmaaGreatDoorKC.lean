/- A decimal's state, shifted: the two calls in one form. -/
import Derived.Test.YtgijplljpimbmaaGreatDoorFgDf
namespace Go.Proofs.PlatenFigure
open Go.RowKit
set_option linter.unusedVariables false
set_option linter.unusedSimpArgs false

structure Dst where
  g : Nat → Nat
  nd : Nat
  dp : Int
  tr : Bool
structure OkS (s : Dst) : Prop where
  ok : OkG s.g s.nd
  pos : 0 < s.nd
def DcS (B K : Nat) (w0 w : World) (s : Dst) (neg : Bool) : Prop := Dc B K w0 w s.g s.nd s.dp neg s.tr
def DcSE (B K : Nat) (w0 : World) (s : Dst) (neg : Bool) (e : Ending) (w' : World) : Prop := e = .returned (.tuple #[]) ∧ DcS B K w0 w' s neg
theorem OkS.first (s : Dst) (h : OkS s) : 49 ≤ s.g 0 ∧ s.g 0 ≤ 57 := by
  have h1 := h.ok.lo 0 h.pos
  have h2 := h.ok.hi 0 h.pos
  have h3 := h.ok.first h.pos
  omega
open Classical in
noncomputable def rsS (k : Nat) (s : Dst) : Dst :=
  if h : ∃ R m, Pick s.g s.nd k R ∧ Stop s.g s.nd k R m then
    ⟨gs s.g s.nd k h.choose h.choose_spec.choose, trimN (gs s.g s.nd k h.choose h.choose_spec.choose) (min h.choose_spec.choose 800), s.dp - ((h.choose : Int) - 1), tgs s.g s.nd k h.choose s.tr h.choose_spec.choose⟩
  else s
theorem rsS_spec {k : Nat} {s : Dst} (h : OkS s) (hk : k ≤ 60) : ∃ R m, Pick s.g s.nd k R ∧ Stop s.g s.nd k R m ∧
    rsS k s = ⟨gs s.g s.nd k R m, trimN (gs s.g s.nd k R m) (min m 800), s.dp - ((R : Int) - 1), tgs s.g s.nd k R s.tr m⟩ := by
  have hex : ∃ R m, Pick s.g s.nd k R ∧ Stop s.g s.nd k R m := by
    obtain ⟨R, hR⟩ := pick_is h.ok h.pos hk
    obtain ⟨m, hm⟩ := stop_is s.g s.nd k R
    exact ⟨R, m, hR, hm⟩
  refine ⟨hex.choose, hex.choose_spec.choose, hex.choose_spec.choose_spec.1, hex.choose_spec.choose_spec.2, ?_⟩
  unfold rsS
  rw [dif_pos hex]
theorem rsS_ok {k : Nat} {s : Dst} (h : OkS s) (hk : k ≤ 60) : OkS (rsS k s) := by
  obtain ⟨R, m, hp, hs, he⟩ := rsS_spec h hk
  rw [he]
  exact ⟨gs_ok h.ok hp hs, gs_pos hp hs⟩
theorem rsS_dp {k : Nat} {s : Dst} (h : OkS s) (hk : k ≤ 60) : (rsS k s).dp ≤ s.dp ∧ s.dp - 20 ≤ (rsS k s).dp := by
  obtain ⟨R, m, hp, hs, he⟩ := rsS_spec h hk
  have h1 := hp.pos
  have h2 := hp.le
  rw [he]
  show s.dp - ((R : Int) - 1) ≤ s.dp ∧ s.dp - 20 ≤ s.dp - ((R : Int) - 1)
  omega
/-- What the shifts to the right make less. -/
def mA (s : Dst) : Int := 2 * s.dp + (if 56 ≤ s.g 0 then 1 else 0)
theorem rsS_less {k : Nat} {s : Dst} (h : OkS s) (hk : k ≤ 60) (h3 : 3 ≤ k) : mA (rsS k s) < mA s := by
  obtain ⟨R, m, hp, hs, he⟩ := rsS_spec h hk
  have hm := hs.pos hp
  have h1 := hp.pos
  have hf := h.first
  have h8 : 8 ≤ 2 ^ k := Nat.pow_le_pow_right (by decide : 0 < 2) h3
  rw [he]
  unfold mA
  show 2 * (s.dp - ((R : Int) - 1)) + (if 56 ≤ gs s.g s.nd k R m 0 then 1 else 0) < 2 * s.dp + (if 56 ≤ s.g 0 then 1 else 0)
  by_cases q : R = 1
  · subst q
    have e1 : Vr s.g s.nd 1 = s.g 0 - 48 := by
      show 10 * 0 + ddg s.g s.nd 0 = _
      unfold ddg
      rw [if_pos h.pos]
      omega
    have hge := hp.ge
    rw [e1] at hge
    have hd : dgs s.g s.nd k 1 0 ≤ 1 := by
      have : dgs s.g s.nd k 1 0 < 2 := (Nat.div_lt_iff_lt_mul (Nat.two_pow_pos k)).2 (by
        show Vr s.g s.nd 1 < _
        rw [e1]; omega)
      omega
    have e2 : gs s.g s.nd k 1 m 0 = 48 + dgs s.g s.nd k 1 0 := by unfold gs; rw [if_pos hm]
    rw [e2, if_neg (by omega), if_pos (by omega)]
    omega
  · split <;> split <;> omega
theorem right_call {B K : Nat} {w0 w : World} {s : Dst} {neg : Bool} {k : Nat} (h : DcS B K w0 w s neg) (ok : OkS s) (hk : k ≤ 60) (hd1 : -1000000 ≤ s.dp) (hd2 : s.dp ≤ 1000000) :
    Calls Tryz.prog 116 #[.pointer (some ⟨K, 0, none⟩), .int .u64 (k : Nat)] w (DcSE B K w0 (rsS k s) neg) := by
  obtain ⟨R, m, hp, hs, he⟩ := rsS_spec ok hk
  refine (rightShift_any h ok.ok ok.pos hk hp hs hd1 hd2).mono ?_
  rintro e w' ⟨rfl, hd⟩
  refine ⟨rfl, ?_⟩
  have ht := gs_pos hp hs
  unfold trimP at hd
  rw [if_neg (by omega)] at hd
  rw [he]
  exact hd
def lsS (k : Nat) (s : Dst) : Dst :=
  ⟨gl s.g (valN s.g s.nd) k (s.nd + dlt s.g s.nd k) (s.nd + dlt s.g s.nd k), trimN (gl s.g (valN s.g s.nd) k (s.nd + dlt s.g s.nd k) (s.nd + dlt s.g s.nd k)) (min (s.nd + dlt s.g s.nd k) 800), s.dp + (dlt s.g s.nd k : Nat), tls (valN s.g s.nd) k (s.nd + dlt s.g s.nd k) s.tr (s.nd + dlt s.g s.nd k)⟩
theorem lsP_of {s : Dst} {k : Nat} (h : OkS s) (h1 : 1 ≤ k) (h2 : k ≤ 60) : LsP s.g s.nd k (valN s.g s.nd) (s.nd + dlt s.g s.nd k) (dlt s.g s.nd k) := by
  have hd := dlt_spec h.ok h.pos h1 h2
  exact ⟨h.ok, h.pos, rfl, rfl, rfl, valN_lt h.ok, hd.1, hd.2⟩
theorem lsS_ok {k : Nat} {s : Dst} (h : OkS s) (h1 : 1 ≤ k) (h2 : k ≤ 60) : OkS (lsS k s) := by
  have p := lsP_of h h1 h2
  have hn := h.pos
  have := gl_ok (g := s.g) p.p1 p.p2 (by omega)
  exact ⟨this.1, this.2⟩
theorem lsS_dp {k : Nat} {s : Dst} (h1 : 1 ≤ k) (h2 : k ≤ 60) : s.dp ≤ (lsS k s).dp ∧ (lsS k s).dp ≤ s.dp + 61 := by
  have hc := (cht k h1 h2).sum
  show s.dp ≤ s.dp + (dlt s.g s.nd k : Nat) ∧ s.dp + (dlt s.g s.nd k : Nat) ≤ s.dp + 61
  unfold dlt
  split <;> omega
/-- What the shifts to the left make less. -/
def mB (s : Dst) : Int := 10 * (-s.dp) + (58 - (s.g 0 : Int))
theorem lsS_less {k : Nat} {s : Dst} (h : OkS s) (h1 : 1 ≤ k) (h2 : k ≤ 60) : mB (lsS k s) < mB s := by
  have p := lsP_of h h1 h2
  have hn := h.pos
  have hf := h.first
  have ho := (lsS_ok h h1 h2).first
  have e0 : (lsS k s).g 0 = 48 + dgl (valN s.g s.nd) k (s.nd + dlt s.g s.nd k - 1) := by
    show gl s.g (valN s.g s.nd) k (s.nd + dlt s.g s.nd k) (s.nd + dlt s.g s.nd k) 0 = _
    unfold gl
    rw [if_pos (by omega), show s.nd + dlt s.g s.nd k - 1 - 0 = s.nd + dlt s.g s.nd k - 1 by omega]
  have ed : (lsS k s).dp = s.dp + (dlt s.g s.nd k : Nat) := rfl
  unfold mB
  rw [ed]
  by_cases q : dlt s.g s.nd k = 0
  · rw [q] at e0 ⊢
    have hdig := valN_digit h.ok (m := s.nd - 1) (by omega)
    rw [show s.nd - 1 - (s.nd - 1) = 0 by omega] at hdig
    have p1 := p.p1
    rw [q] at p1
    have hp : 0 < 10 ^ (s.nd - 1) := Nat.pow_pos (by decide)
    have a2 : valN s.g s.nd * 2 ^ k / 10 ^ (s.nd - 1) < 10 := (Nat.div_lt_iff_lt_mul hp).2 (by
      obtain ⟨n, hn2⟩ : ∃ n, s.nd = n + 1 := ⟨s.nd - 1, by omega⟩
      rw [hn2] at p1 ⊢
      rw [show n + 1 - 1 = n by omega, Nat.mul_comm 10, ← Nat.pow_succ]
      exact p1)
    have a3 : valN s.g s.nd / 10 ^ (s.nd - 1) * 2 ≤ valN s.g s.nd * 2 ^ k / 10 ^ (s.nd - 1) := by
      refine (Nat.le_div_iff_mul_le hp).2 ?_
      rw [Nat.mul_right_comm]
      have b1 := Nat.div_mul_le_self (valN s.g s.nd) (10 ^ (s.nd - 1))
      have b2 : 2 ≤ 2 ^ k := Nat.pow_le_pow_right (by decide : 0 < 2) h1
      exact Nat.mul_le_mul b1 b2
    have a4 : valN s.g s.nd / 10 ^ (s.nd - 1) < 10 := by omega
    rw [Nat.mod_eq_of_lt a4] at hdig
    have e1 : dgl (valN s.g s.nd) k (s.nd + 0 - 1) = valN s.g s.nd * 2 ^ k / 10 ^ (s.nd - 1) := Nat.mod_eq_of_lt a2
    rw [e1] at e0
    omega
  · omega
theorem left_call {B K : Nat} {w0 w : World} {s : Dst} {neg : Bool} {k : Nat} (h : DcS B K w0 w s neg) (ok : OkS s) (h1 : 1 ≤ k) (hk : k ≤ 60) (hB : B = w0.heap.size) (ht : Tabs w0) (hd1 : -1000000 ≤ s.dp) (hd2 : s.dp ≤ 1000000) :
    Calls Tryz.prog 115 #[.pointer (some ⟨K, 0, none⟩), .int .u64 (k : Nat)] w (DcSE B K w0 (lsS k s) neg) := by
  have p := lsP_of ok h1 hk
  have hb := h.bel
  rw [hB] at hb
  refine (leftShift_any h h1 hk p (ht.below hb) hd1 hd2).mono ?_
  rintro e w' ⟨rfl, hd⟩
  refine ⟨rfl, ?_⟩
  have hn := ok.pos
  have hg := (gl_ok (g := s.g) p.p1 p.p2 (by omega)).2
  unfold trimP at hd
  rw [if_neg (by omega)] at hd
  exact hd
end Go.Proofs.PlatenFigure

/- What strconv's decimal.Shift comes to. -/
namespace Go.Proofs.PlatenFigure
open Go.RowKit
set_option linter.unusedVariables false
set_option linter.unusedSimpArgs false
set_option maxRecDepth 20000

noncomputable def itR : Nat → Dst → Dst
  | 0, s => s
  | q + 1, s => itR q (rsS 60 s)
noncomputable def shR (n : Nat) (s : Dst) : Dst := rsS (n - 60 * ((n - 1) / 60)) (itR ((n - 1) / 60) s)
theorem itR_ok : ∀ q s, OkS s → OkS (itR q s)
  | 0, _, h => h
  | q + 1, s, h => itR_ok q (rsS 60 s) (rsS_ok h (by decide))
theorem itR_dp : ∀ q s, OkS s → (itR q s).dp ≤ s.dp ∧ s.dp - 20 * q ≤ (itR q s).dp
  | 0, s, _ => by show s.dp ≤ s.dp ∧ s.dp - 20 * ((0 : Nat) : Int) ≤ s.dp; omega
  | q + 1, s, h => by
    have h1 := itR_dp q (rsS 60 s) (rsS_ok h (by decide))
    have h2 := rsS_dp h (show 60 ≤ 60 by decide)
    show (itR q (rsS 60 s)).dp ≤ s.dp ∧ s.dp - 20 * ((q + 1 : Nat) : Int) ≤ (itR q (rsS 60 s)).dp
    omega
theorem shR_ok {n : Nat} {s : Dst} (h : OkS s) : OkS (shR n s) := rsS_ok (itR_ok _ s h) (by omega)
theorem shR_dp {n : Nat} {s : Dst} (h : OkS s) : (shR n s).dp ≤ s.dp ∧ s.dp - 20 * n - 20 ≤ (shR n s).dp := by
  have h1 := itR_dp ((n - 1) / 60) s h
  have h2 := rsS_dp (k := n - 60 * ((n - 1) / 60)) (itR_ok ((n - 1) / 60) s h) (by omega)
  show (rsS (n - 60 * ((n - 1) / 60)) (itR ((n - 1) / 60) s)).dp ≤ _ ∧ _ ≤ (rsS (n - 60 * ((n - 1) / 60)) (itR ((n - 1) / 60) s)).dp
  omega
theorem shR_small {n : Nat} {s : Dst} (h : n ≤ 60) : shR n s = rsS n s := by
  unfold shR
  rw [show (n - 1) / 60 = 0 by omega]
  rfl
set_option maxHeartbeats 4000000 in
theorem shift_left {B K : Nat} {w0 w : World} {s : Dst} {neg : Bool} {k : Nat} (h : DcS B K w0 w s neg) (ok : OkS s) (h1 : 1 ≤ k) (hk : k ≤ 60) (hB : B = w0.heap.size) (ht : Tabs w0) (hd1 : -1000000 ≤ s.dp) (hd2 : s.dp ≤ 1000000) :
    Calls Tryz.prog 82 #[.pointer (some ⟨K, 0, none⟩), .int .i64 (k : Nat)] w (DcSE B K w0 (lsS k s) neg) := by
  have HC := hidden' (fun (u : World) (hu : DcS B K w0 u s neg) => left_call hu ok h1 hk hB ht hd1 hd2)
  have H := hidden' h
  have c0 := h.c0
  have f0 := h.free 800
  have hz : (((s.nd : Nat) : Int) == 0) = false := by have := ok.pos; simp only [beq_eq_false_iff_ne, ne_eq]; omega
  have hkI : (0 : Int) < (k : Nat) := by omega
  have hk60 : ¬ (60 : Int) < (k : Nat) := by omega
  generalize lsS k s = s' at *
  clear h ok ht hd1 hd2 hB
  generalize s.nd = n at *
  go_enter Tryz.func82, Tryz.ntmps82
  go_wp2_with fail
  go_loopw [1] (fun x wr => x = .int .i64 (k : Nat) ∧ DcS B K w0 wr s neg) (fun _ _ => 0)
  case atStart => exact ⟨rfl, H.out⟩
  case round =>
    obtain ⟨rfl, hd⟩ := hrel
    have Hd := hidden' hd
    clear hd
    go_wp2_with fail
    refine (HC.out _ Hd.out).mono ?_
    rintro e w' ⟨rfl, hd'⟩
    have HD' := hidden' hd'
    clear hd'
    go_wp2_with fail
    go_end0
    exact ⟨rfl, HD'.out⟩
set_option maxHeartbeats 4000000 in
theorem shift_right {B K : Nat} {w0 w : World} {s : Dst} {neg : Bool} {n : Nat} (h : DcS B K w0 w s neg) (ok : OkS s) (h1 : 1 ≤ n) (hn : n ≤ 600000) (hd1 : -400000 ≤ s.dp) (hd2 : s.dp ≤ 1000000) :
    Calls Tryz.prog 82 #[.pointer (some ⟨K, 0, none⟩), .int .i64 (-(n : Int))] w (DcSE B K w0 (shR n s) neg) := by
  have c0 := h.c0
  have f0 := h.free 800
  have hz : (((s.nd : Nat) : Int) == 0) = false := by have := ok.pos; simp only [beq_eq_false_iff_ne, ne_eq]; omega
  have H := hidden' h
  have OK := hidden' ok
  have hnI : -(n : Int) < 0 := by omega
  have hn0 : ¬ (0 : Int) < -(n : Int) := by omega
  obtain ⟨Q, hQ⟩ : ∃ Q, Q = (n - 1) / 60 := ⟨_, rfl⟩
  have hX : shR n s = rsS (n - 60 * Q) (itR Q s) := by rw [hQ]; rfl
  have HX := hidden' hX
  have hQ1 : 60 * Q + 1 ≤ n := by omega
  have hQ2 : n ≤ 60 * Q + 60 := by omega
  clear h ok hX hQ
  generalize s.nd = nn at *
  go_enter Tryz.func82, Tryz.ntmps82
  go_wp2_with fail
  go_loopw [1] (fun x wr => ∃ (j : Nat) (t : Dst), j ≤ Q ∧ x = .int .i64 (60 * (j : Int) - n) ∧ itR (Q - j) t = itR Q s ∧ OkS t ∧ t.dp ≤ s.dp ∧ s.dp - 20 * j ≤ t.dp ∧ DcS B K w0 wr t neg) (fun x _ => (-(intOf x)).toNat)
  case atStart => exact ⟨0, s, Nat.zero_le _, by simp, rfl, OK.out, Int.le_refl _, by simp, H.out⟩
  case round =>
    clear c0 f0 hz
    obtain ⟨j, t, hj, rfl, he, hok, hp1, hp2, hd⟩ := hrel
    have Hd := hidden' hd
    have He := hidden' he
    have Hok := hidden' hok
    have HC := hidden' (fun (k : Nat) (hk : k ≤ 60) => right_call hd hok hk (by omega) (by omega))
    clear hd he hok
    by_cases q : j < Q
    · have hg : 60 * (j : Int) - n < -60 := by omega
      have hC1 := hidden' (HC.out 60 (by decide))
      clear HC
      have hlo : (-600000 : Int) ≤ 60 * (j : Int) - n := by omega
      generalize hx : 60 * (j : Int) - n = x at *
      have Hx := hidden' hx
      clear hx
      go_wp2_with fail
      refine hC1.out.mono ?_
      rintro e w' ⟨rfl, hd'⟩
      have HD' := hidden' hd'
      clear hd'
      go_wp2_with fail
      refine ⟨⟨j + 1, rsS 60 t, by omega, by have := Hx.out; rw [show 60 * ((j + 1 : Nat) : Int) - n = x + 60 by omega], ?_, rsS_ok Hok.out (by decide), ?_, ?_, HD'.out⟩, ?_⟩
      · have := He.out
        rw [show Q - j = (Q - (j + 1)) + 1 by omega] at this
        exact this
      · have := (rsS_dp Hok.out (show 60 ≤ 60 by decide)).1; omega
      · have := (rsS_dp Hok.out (show 60 ≤ 60 by decide)).2; omega
      · simp [intOf]; omega
    · obtain rfl : j = Q := by omega
      have hg : ¬ 60 * (j : Int) - n < -60 := by omega
      have ht := He.out
      rw [Nat.sub_self] at ht
      have ht' : t = itR j s := ht
      have hC1 := HC.out (n - 60 * j) (by omega)
      rw [ht'] at hC1
      rw [← HX.out] at hC1
      have HC1 := hidden' hC1
      have hy : -(60 * (j : Int) - n) = ((n - 60 * j : Nat) : Int) := by omega
      have hyb : ((n - 60 * j : Nat) : Int) ≤ 60 := by omega
      clear hC1 ht ht' HC He
      have hlo : (-600000 : Int) ≤ 60 * (j : Int) - n := by omega
      generalize 60 * (j : Int) - n = x at *
      generalize n - 60 * j = y at *
      go_wp2_with fail
      refine HC1.out.mono ?_
      rintro e w' ⟨rfl, hd'⟩
      have HD' := hidden' hd'
      clear hd'
      go_wp2_with fail
      go_end0
      exact ⟨rfl, HD'.out⟩
end Go.Proofs.PlatenFigure
