/- What strconv's shortFloat comes to in general: some digits, not none, and where the point is. -/
import Derived.Test.YtgijplljpimbmaaGreatDoorFgG
import Derived.Test.YtgijplljpimbmaaGreatDoorFgH
import Derived.Test.YtgijplljpimbmaaGreatDoorKO
import Derived.Deep.CutRange
import Derived.Deep.CutBlock
import Derived.WalkMore
namespace Go.Proofs.PlatenFigure
open Go.RowKit Go.Shelf
set_option linter.unusedVariables false
set_option linter.unusedSimpArgs false
set_option maxRecDepth 20000

theorem p10_big : (p10.all fun x => decide (2 ^ 63 ≤ x.1)) = true := by decide +kernel
theorem p_big (i : Nat) (h : i < 696) : 2 ^ 63 ≤ pHi i := by
  have hl : i < p10.length := by rw [p10_len]; exact h
  have := List.all_eq_true.1 p10_big p10[i] (List.getElem_mem hl)
  unfold pHi
  rw [List.getD_eq_getElem?_getD, List.getElem?_eq_getElem hl]
  simpa using this
theorem usc_top (x ph pl s : Nat) (hx : x < 18446744073709551616) (hh : ph < 18446744073709551616) (hs : 2 ≤ s) : usc x ph pl s < 2 ^ 62 := by
  have bH : x * ph / 18446744073709551616 < 18446744073709551616 := by
    rw [Nat.div_lt_iff_lt_mul (by decide)]; exact Nat.mul_lt_mul'' hx hh
  have h4 : 4 ≤ 2 ^ s := by
    have := Nat.pow_le_pow_right (show 0 < 2 by decide) hs
    simpa using this
  have key : ∀ y, y < 18446744073709551616 → y / 2 ^ s < 2 ^ 62 := fun y hy => by
    rw [Nat.div_lt_iff_lt_mul (by omega)]
    calc y < 2 ^ 62 * 4 := by omega
      _ ≤ 2 ^ 62 * 2 ^ s := Nat.mul_le_mul_left _ h4
  unfold usc uscT
  generalize x * ph / 18446744073709551616 = H at *
  split
  · refine Nat.or_lt_two_pow (n := 62) (key _ (Nat.mod_lt _ (by decide))) ?_
    split <;> decide
  · exact Nat.or_lt_two_pow (n := 62) (key _ bH) (by decide)
theorem usc_low (x ph pl s : Nat) (hx : 2 ^ 62 ≤ x) (hx2 : x < 18446744073709551616) (hh : 2 ^ 63 ≤ ph) (hh2 : ph < 18446744073709551616) (hs : s ≤ 58) : 7 ≤ usc x ph pl s := by
  have bH : x * ph / 18446744073709551616 < 18446744073709551616 := by
    rw [Nat.div_lt_iff_lt_mul (by decide)]; exact Nat.mul_lt_mul'' hx2 hh2
  have bL : 2 ^ 61 ≤ x * ph / 18446744073709551616 := by
    rw [Nat.le_div_iff_mul_le (by decide)]
    calc 2 ^ 61 * 18446744073709551616 = 2 ^ 62 * 2 ^ 63 := by decide
      _ ≤ x * ph := Nat.mul_le_mul hx hh
  have hp : 2 ^ s ≤ 2 ^ 58 := Nat.pow_le_pow_right (by decide) hs
  have hp0 : 0 < 2 ^ s := Nat.two_pow_pos s
  have key : ∀ y, 2 ^ 61 - 1 ≤ y → 7 ≤ y / 2 ^ s := fun y hy => by
    rw [Nat.le_div_iff_mul_le hp0]
    omega
  unfold usc uscT
  generalize x * ph / 18446744073709551616 = H at *
  generalize x * ph % 18446744073709551616 = M at *
  generalize x * pl / 18446744073709551616 = M2 at *
  split
  · refine Nat.le_trans (key _ ?_) Nat.left_le_or
    split <;> omega
  · exact Nat.le_trans (key _ (by omega)) Nat.left_le_or
/-- What is scaled: the power of ten (by its row), how far to shift. -/
structure Scl (e p : Int) (k S : Nat) : Prop where
  kp : p = (k : Int) - 348
  k1 : k < 696
  p1 : -350 ≤ p
  p2 : p ≤ 350
  s : -(e + p * 108853 / 32768 + 3) = (S : Int)
  s2 : 2 ≤ S
  s58 : S ≤ 58
theorem scl_a (e : Int) (h1 : -1085 ≤ e) (h2 : e ≤ 1000) : ∃ k S, Scl e (-((e + 11) * 78913 / 262144)) k S := by
  refine ⟨(-((e + 11) * 78913 / 262144) + 348).toNat, (-(e + (-((e + 11) * 78913 / 262144)) * 108853 / 32768 + 3)).toNat, ?_, ?_, ?_, ?_, ?_, ?_, ?_⟩ <;> omega
theorem scl_b (e : Int) (h1 : -1085 ≤ e) (h2 : e ≤ 1000) : ∃ k S, Scl e (-(((e + 11) * 631305 - 261663) / 2097152)) k S := by
  refine ⟨(-(((e + 11) * 631305 - 261663) / 2097152) + 348).toNat, (-(e + (-(((e + 11) * 631305 - 261663) / 2097152)) * 108853 / 32768 + 3)).toNat, ?_, ?_, ?_, ?_, ?_, ?_, ?_⟩ <;> omega
theorem scl_c (e : Int) (h1 : -1137 ≤ e) (h2 : e < -1085) : ∃ k S, Scl e 324 k S := by
  refine ⟨672, (-(e + 1079)).toNat, ?_, ?_, ?_, ?_, ?_, ?_, ?_⟩ <;> omega
def ShP (w : World) (e : Ending) (w' : World) : Prop := ∃ (d : Nat) (p : Int), e = .returned (.tuple #[.int .u64 d, .int .i64 p]) ∧ 1 ≤ d ∧ d < 18446744073709551616 ∧ -400 ≤ p ∧ p ≤ 400 ∧ Below w.heap.size w w'
end Go.Proofs.PlatenFigure

/- What strconv's shortFloat comes to in general: the walk. -/
namespace Go.Proofs.PlatenFigure
open Go.RowKit Go.Shelf
set_option linter.unusedVariables false
set_option linter.unusedSimpArgs false
set_option maxRecDepth 20000

/-- A fact that no tactic looks into. -/
structure Shut (p : Prop) : Prop where
  out : p
theorem shut {p : Prop} (h : p) : Shut p := ⟨h⟩
theorem and_one (x : Int) : ∃ o : Nat, bits .and .i64 x 1 = (o : Int) ∧ o ≤ 1 := by
  refine ⟨(BitVec.ofInt 64 x).toNat % 2, ?_, by omega⟩
  show IntKind.i64.wrap ((BitVec.ofInt 64 x &&& BitVec.ofInt 64 1).toNat : Int) = _
  rw [BitVec.toNat_and, show (BitVec.ofInt 64 1).toNat = 1 by decide, Nat.and_one_is_mod, IntKind.wrap_i64]
  omega
set_option maxHeartbeats 8000000 in
theorem short_any (m z : Nat) (e : Int) (w : World) (hm1 : 9223372036854775808 ≤ m) (hm2 : m < 18446744073709551616) (h1 : -1137 ≤ e) (h2 : e ≤ 1000)
    (hz : (z : Int) = if -1085 ≤ e then 11 else -1074 - e) (hmz : m + 2 ^ (z - 1) < 18446744073709551616) (hw : 11 ≤ w.heap.size) (hP : P10 w) :
    Calls Tryz.prog 84 #[.int .u64 m, .int .i64 e] w (ShP w) := by
  have HW := hidden hw
  have HP := hidden hP
  have HMZ := hidden hmz
  have HZ := hidden hz
  clear hw hP hmz hz
  unfold ShP
  go_enter Tryz.func84, Tryz.ntmps84
  go_upto_region 12 with fail
  go_cut [28] from 22 to 27 (fun a wx => ∃ b : Bool, a = .bool b ∧ (b = true → m = 9223372036854775808 ∧ -1085 < e) ∧ (b = false → m ≠ 9223372036854775808 ∨ e ≤ -1085) ∧ wx = w)
  case first =>
    by_cases q1 : m = 9223372036854775808
    · have e1 : (((m : Nat) : Int) == 9223372036854775808) = true := by simp; omega
      by_cases q2 : -1085 < e
      · clear q1
        go_wp2_with fail
        go_meet
        exact ⟨true, rfl, fun _ => ⟨by have := hm1; simp at e1; omega, q2⟩, by simp, rfl⟩
      · clear q1
        go_wp2_with fail
        go_meet
        exact ⟨false, rfl, by simp, fun _ => Or.inr (by omega), rfl⟩
    · have e1 : (((m : Nat) : Int) == 9223372036854775808) = false := by simp; omega
      have HQ := hidden q1
      clear q1
      go_wp2_with fail
      go_meet
      exact ⟨false, rfl, by simp, fun _ => Or.inl HQ.out, rfl⟩
  case rest =>
  obtain ⟨b, rfl, hb1, hb2, rfl⟩ := hcut
  have HB1 := hidden hb1
  have HB2 := hidden hb2
  clear hb1 hb2
  go_upto_if 28 with fail
  go_cut [5, 8, 9, 10, 11] from 28 to 96 (fun p mn mx od _ wx => ∃ (q : Int) (k S a c o : Nat), p = .int .i64 q ∧ Scl e q k S ∧ mn = .int .u64 a ∧ mx = .int .u64 c ∧ od = .int .i64 o ∧ o ≤ 1 ∧ 4611686018427387904 ≤ a ∧ a < 18446744073709551616 ∧ 4611686018427387904 ≤ c ∧ c < 18446744073709551616 ∧ wx = wc)
  case first =>
    cases b
    · by_cases q3 : -1085 ≤ e
      · have c1 := log10_any (e + 11) wc (by omega) (by omega)
        go_wp2_with fail
        refine c1.mono ?_
        rintro e' w' ⟨rfl, rfl⟩
        go_wp2_with fail
        go_meet
        obtain ⟨o, ho, ho1⟩ := and_one ((m : Int) / 2048)
        obtain ⟨k, S, hs⟩ := scl_a e (by omega) h2
        have hz := HZ.out
        rw [if_pos q3] at hz
        obtain rfl : z = 11 := by omega
        have hmz := HMZ.out
        have hmz : m + 1024 < 18446744073709551616 := hmz
        refine ⟨_, k, S, m - 1024, m + 1024, o, rfl, hs, ?_, ?_, by rw [ho], ho1, by omega, by omega, by omega, by omega, rfl⟩
        · congr 1; omega
        · congr 1; rw [IntKind.wrap_u64]; omega
      · have c1 := log10_any (-1074) wc (by omega) (by omega)
        obtain ⟨y, hy⟩ : ∃ y : Nat, e = -1074 - (y : Int) := ⟨(-1074 - e).toNat, by omega⟩
        subst hy
        have y1 : (11 : Int) < y := by omega
        have y2 : (y : Int) ≤ 63 := by omega
        have hzz : 11 + (-1085 - (-1074 - (y : Int))) = (y : Int) := by omega
        rw [show (-1074 : Int) * 78913 / 262144 = -324 by decide] at c1
        go_wp2_with fail
        refine c1.mono ?_
        rintro e' w' ⟨rfl, rfl⟩
        go_wp2_with fail
        go_meet
        obtain ⟨o, ho, ho1⟩ := and_one (wrap64 ((m : Int) / 2 ^ y))
        obtain ⟨k, S, hs⟩ := scl_c (-1074 - (y : Int)) (by omega) (by omega)
        have hz := HZ.out
        rw [if_neg (by omega)] at hz
        obtain rfl : z = y := by omega
        have hmz := HMZ.out
        have hT : 2 ^ (z - 1) ≤ 2 ^ 62 := Nat.pow_le_pow_right (by decide) (by omega)
        have hI : (2 : Int) ^ (z - 1) = ((2 ^ (z - 1) : Nat) : Int) := by push_cast; rfl
        rw [hI]
        generalize 2 ^ (z - 1) = T at *
        have hw : IntKind.u64.wrap ((T : Nat) : Int) = T := by rw [IntKind.wrap_u64]; omega
        refine ⟨_, k, S, m - T, m + T, o, rfl, hs, ?_, ?_, by rw [ho], ho1, by omega, by omega, by omega, by omega, rfl⟩
        · rw [hw, IntKind.wrap_u64]; congr 1; omega
        · rw [hw, IntKind.wrap_u64]; congr 1; omega
    · obtain ⟨rfl, hq⟩ := HB1.out rfl
      have c1 := skewed_any (e + 11) wc (by omega) (by omega)
      go_wp2_with fail
      refine c1.mono ?_
      rintro e' w' ⟨rfl, rfl⟩
      go_wp2_with fail
      go_meet
      obtain ⟨k, S, hs⟩ := scl_b e (by omega) h2
      obtain ⟨o, ho, ho1⟩ := and_one 4503599627370496
      refine ⟨_, k, S, 9223372036854775296, 9223372036854776832, o, rfl, hs, rfl, rfl, by rw [ho], ho1, by decide, by decide, by decide, by decide, rfl⟩
  case rest =>
  obtain ⟨q, k, S, a, c, o, rfl, hs, rfl, rfl, rfl, ho, ha1, ha2, hc1, hc2, rfl⟩ := hcut
  obtain ⟨rfl, hk, hp1, hp2, hS, hS2, hS58⟩ := hs
  have c2 := fun w2 => log2_any ((k : Int) - 348) w2 (by omega) (by omega)
  have c3 := prescale_any e ((k : Int) - 348) (((k : Int) - 348) * 108853 / 32768) k wc (.int .u64 0) (.int .u64 0) (.int .i64 0) rfl hk (by omega) (by omega) (by omega) (by omega) HW.out HP.out
  rw [hS] at c3
  have hbig := p_big k hk
  have hfit := p_fit k
  have hU : ∀ x, x < 18446744073709551616 → ∀ u, (∃ n, u = (wc.alloc (.cells #[.int .u64 (pHi k : Nat), .int .u64 (pLo k : Nat), .int .i64 (S : Nat)] 134)).drewN n) → Calls Tryz.prog 107 #[.int .u64 (x : Nat), .pointer (some ⟨wc.heap.size, 0, none⟩)] u fun e w' => e = .returned (.int .u64 (usc x (pHi k) (pLo k) S : Nat)) ∧ ∃ n, w' = (wc.alloc (.cells #[.int .u64 (pHi k : Nat), .int .u64 (pLo k : Nat), .int .i64 (S : Nat)] 134)).drewN n := by
    rintro x hx u ⟨n, rfl⟩
    refine (uscale_any x (pHi k) (pLo k) S wc.heap.size _ hx (by omega) (by omega) (by omega) (by simp) (by simp) (by simp)).mono ?_
    rintro e w' ⟨rfl, n', rfl⟩
    exact ⟨rfl, n + n', by unfold World.drewN; simp only [Nat.add_assoc]⟩
  have HB := hidden (show Below wc.heap.size wc (wc.alloc (.cells #[.int .u64 (pHi k : Nat), .int .u64 (pLo k : Nat), .int .i64 (S : Nat)] 134)) from (Below.refl _ _).alloc (Nat.le_refl _) _)
  have l1 := usc_low a (pHi k) (pLo k) S ha1 ha2 hbig (by omega) hS58
  have l2 := usc_low c (pHi k) (pLo k) S hc1 hc2 hbig (by omega) hS58
  have l3 := usc_low m (pHi k) (pLo k) S (by omega) hm2 hbig (by omega) hS58
  have t1 := usc_top a (pHi k) (pLo k) S ha2 (by omega) hS2
  have t2 := usc_top c (pHi k) (pLo k) S hc2 (by omega) hS2
  have t3 := usc_top m (pHi k) (pLo k) S hm2 (by omega) hS2
  have HU1 := hidden (hU a ha2)
  have HU2 := hidden (hU c hc2)
  have HU3 := hidden (hU m hm2)
  clear hU hbig hfit
  generalize usc a (pHi k) (pLo k) S = U1 at *
  generalize usc c (pHi k) (pLo k) S = U2 at *
  generalize usc m (pHi k) (pLo k) S = U3 at *
  have c6 : ∀ w2, Calls Tryz.prog 108 #[.int .u64 (U1 : Nat), .int .i64 (o : Nat)] w2 fun e w' => e = .returned (.int .u64 ((U1 + o : Nat) : Int)) ∧ w' = w2 := fun w2 => by
    have := nudge_any U1 o w2 (by omega) (by omega) (by omega) (by omega)
    rw [show ((U1 : Nat) : Int) + (o : Int) = ((U1 + o : Nat) : Int) by omega] at this
    exact this
  have c7 := fun w2 => ceil_any (U1 + o) w2 (by omega)
  have c8 : ∀ w2, Calls Tryz.prog 108 #[.int .u64 (U2 : Nat), .int .i64 (-(o : Int))] w2 fun e w' => e = .returned (.int .u64 ((U2 - o : Nat) : Int)) ∧ w' = w2 := fun w2 => by
    have := nudge_any U2 (-(o : Int)) w2 (by omega) (by omega) (by omega) (by omega)
    rw [show ((U2 : Nat) : Int) + (-(o : Int)) = ((U2 - o : Nat) : Int) by omega] at this
    exact this
  have c9 := fun w2 => floor_any (U2 - o) w2 (by omega)
  have cr := fun w2 => round_any U3 w2 (by omega)
  have hA : 2 ≤ (U1 + o + 3) / 4 ∧ (U1 + o + 3) / 4 < 9223372036854775808 := by omega
  have hC : (U2 - o) / 4 < 4611686018427387904 := by omega
  have hR : 1 ≤ (U3 + 1 + U3 / 4 % 2) / 4 ∧ (U3 + 1 + U3 / 4 % 2) / 4 < 9223372036854775808 := by omega
  have hoI : (o : Int) ≤ 1 := by omega
  generalize (U1 + o + 3) / 4 = A at *
  generalize U1 + o = V1 at *
  generalize (U2 - o) / 4 = C at *
  generalize U2 - o = V2 at *
  generalize (U3 + 1 + U3 / 4 % 2) / 4 = R at *
  have HA := shut hA
  have HR := shut hR
  obtain ⟨hA1, hA2⟩ := hA
  have hCI : (C : Int) < 4611686018427387904 := by omega
  obtain ⟨D, hD⟩ : ∃ D, C / 10 = D := ⟨_, rfl⟩
  have eD : (C : Int) / 10 = (D : Int) := by omega
  obtain ⟨E, hE⟩ : ∃ E, D * 10 = E := ⟨_, rfl⟩
  have eE : (D : Int) * 10 = (E : Int) := by omega
  have hEI : (E : Int) < 4611686018427387904 := by omega
  have HE := shut hE
  clear hA1 hA2 hC hR hD hE t1 t2 t3 l1 l2 l3 ha1 ha2 hc1 hc2
  go_wp2_with fail
  refine (c2 _).mono ?_
  rintro e2 w2 ⟨rfl, rfl⟩
  go_wp2_with fail
  refine c3.mono ?_
  rintro e2 w3 ⟨rfl, rfl⟩
  go_wp2_with fail
  refine (HU1.out _ ⟨0, rfl⟩).mono ?_
  rintro e2 w4 ⟨rfl, hn4⟩
  go_wp2_with fail
  refine (c6 _).mono ?_
  rintro e2 w5 ⟨rfl, rfl⟩
  go_wp2_with fail
  refine (c7 _).mono ?_
  rintro e2 w5 ⟨rfl, rfl⟩
  go_wp2_with fail
  refine (HU2.out _ hn4).mono ?_
  rintro e2 w5 ⟨rfl, hn5⟩
  go_wp2_with fail
  refine (c8 _).mono ?_
  rintro e2 w6 ⟨rfl, rfl⟩
  go_wp2_with fail
  refine (c9 _).mono ?_
  rintro e2 w6 ⟨rfl, rfl⟩
  have HN := shut hn5
  have key : Hid (∀ u, (∃ n, u = (wc.alloc (.cells #[.int .u64 (pHi k : Nat), .int .u64 (pLo k : Nat), .int .i64 (S : Nat)] 134)).drewN n) → Below wc.heap.size wc u) := by
    rintro u ⟨n, rfl⟩
    exact below_drewN HB.out n
  clear hn4 hn5
  go_upto_if 118 with fail
  have HCE := shut (And.intro hCI hEI)
  clear hCI hEI eD eE hS hS2 hS58 c2 c3 c6 c7 c8 c9 HMZ HZ HB1 HB2
  by_cases q : A ≤ E
  · have qI := q
    have hD1 : 1 ≤ D := by have := HA.out; have := HE.out; omega
    go_wp2_with fail
    go_ret2
    exact ⟨D, _, rfl, hD1, by have := HCE.out; have := HE.out; omega, by omega, by omega, key.out _ HN.out⟩
  · by_cases q2 : A < C
    · have qJ := q2
      go_wp2_with fail
      refine (HU3.out _ HN.out).mono ?_
      rintro e2 w7 ⟨rfl, hn7⟩
      have HN7 := shut hn7
      clear hn7
      go_wp2_with fail
      refine (cr _).mono ?_
      rintro e2 w8 ⟨rfl, rfl⟩
      go_wp2_with fail
      go_ret2
      exact ⟨R, _, rfl, HR.out.1, by have := HR.out.2; omega, by omega, by omega, key.out _ HN7.out⟩
    · skip
      go_wp2_with fail
      go_ret2
      exact ⟨A, _, rfl, by have := HA.out.1; omega, by have := HA.out.2; omega, by omega, by omega, key.out _ HN.out⟩
end Go.Proofs.PlatenFigure
