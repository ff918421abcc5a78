/- Bits and digits for strconv's text of a number. -/
import Derived.Test.YtgijplljpimbmaaGreatDoorKI
import Derived.Test.YtgijplljpimbmaaGreatDoorKJ
import Derived.Test.YtgijplljpimbmaaGreatDoorFgK
import Derived.Test.YtgijplljpimbmaaGreatDoorFgXk
import Derived.WalkMore
import Derived.Deep.RegionWith
namespace Go.Proofs.PlatenFigure
open Go.RowKit Go.Shelf
set_option linter.unusedVariables false
set_option linter.unusedSimpArgs false

theorem ofInt_nat (n : Nat) (h : n < 18446744073709551616) : (BitVec.ofInt 64 (n : Int)).toNat = n := by
  rw [BitVec.toNat_ofInt]
  omega
/-- The exponent's field. -/
theorem and_field (f : Nat) (h : f < 4096) : bits .and .i64 (f : Int) 2047 = ((f % 2048 : Nat) : Int) := by
  show IntKind.i64.wrap ((BitVec.ofInt 64 (f : Int) &&& BitVec.ofInt 64 ((2047 : Nat) : Int)).toNat : Int) = _
  rw [BitVec.toNat_and, ofInt_nat f (by omega), ofInt_nat 2047 (by decide), show (2047 : Nat) = 2 ^ 11 - 1 by decide, Nat.and_two_pow_sub_one_eq_mod, IntKind.wrap_i64]
  omega
/-- The mantissa's field. -/
theorem and_mant (x : Nat) (h : x < 18446744073709551616) : bits .and .u64 (x : Int) 4503599627370495 = ((x % 4503599627370496 : Nat) : Int) := by
  show IntKind.u64.wrap ((BitVec.ofInt 64 (x : Int) &&& BitVec.ofInt 64 ((4503599627370495 : Nat) : Int)).toNat : Int) = _
  rw [BitVec.toNat_and, ofInt_nat x h, ofInt_nat 4503599627370495 (by decide), show (4503599627370495 : Nat) = 2 ^ 52 - 1 by decide, Nat.and_two_pow_sub_one_eq_mod, IntKind.wrap_u64]
  omega
theorem or_mant (m : Nat) (h : m < 4503599627370496) : bits .or .u64 (m : Int) 4503599627370496 = ((m + 4503599627370496 : Nat) : Int) := by
  show IntKind.u64.wrap ((BitVec.ofInt 64 (m : Int) ||| BitVec.ofInt 64 ((4503599627370496 : Nat) : Int)).toNat : Int) = _
  have e : m ||| 4503599627370496 = m + 4503599627370496 := by
    have := Nat.two_pow_add_eq_or_of_lt (i := 52) (b := m) (by simpa using h) 1
    rw [Nat.or_comm]
    simp at this
    omega
  rw [BitVec.toNat_or, ofInt_nat m (by omega), ofInt_nat 4503599627370496 (by decide), e, IntKind.wrap_u64]
  omega
/-- A mantissa, moved to the left as far as there is room. -/
structure Lj (M s m : Nat) : Prop where
  s1 : 11 ≤ s
  s2 : s ≤ 63
  len : Lib.bitLen M = 64 - s
  eq : M * 2 ^ s = m
  m1 : 9223372036854775808 ≤ m
  m2 : m + 2 ^ (s - 1) < 18446744073709551616
  big : 4503599627370496 ≤ M → s = 11
theorem lj_of (M : Nat) (h0 : M ≠ 0) (h : M < 9007199254740992) : ∃ s m, Lj M s m := by
  obtain ⟨a, b, c⟩ := Lib.bitLenAux_bounds 64 M (by omega) h0
  have hL : Lib.bitLen M ≤ 53 := Lib.bitLen_le M 53 (by decide) (by simpa using h)
  have e : Lib.bitLenAux 64 M = Lib.bitLen M := rfl
  rw [e] at a b c
  generalize hB : Lib.bitLen M = B at *
  have p1 : 2 ^ (B - 1) * 2 ^ (64 - B) = 2 ^ 63 := by rw [← Nat.pow_add]; congr 1; omega
  have p2 : 2 ^ B * 2 ^ (64 - B) = 2 ^ 64 := by rw [← Nat.pow_add]; congr 1; omega
  have p3 : 2 ^ (64 - B) = 2 * 2 ^ (64 - B - 1) := by rw [← Nat.pow_succ']; congr 1; omega
  have p4 : 0 < 2 ^ (64 - B - 1) := Nat.two_pow_pos _
  refine ⟨64 - B, _, by omega, by omega, by omega, rfl, ?_, ?_, ?_⟩
  · calc 9223372036854775808 = 2 ^ 63 := by decide
      _ = 2 ^ (B - 1) * 2 ^ (64 - B) := p1.symm
      _ ≤ M * 2 ^ (64 - B) := Nat.mul_le_mul_right _ b
  · have h1 : (M + 1) * 2 ^ (64 - B) ≤ 2 ^ B * 2 ^ (64 - B) := Nat.mul_le_mul_right _ c
    rw [p2, Nat.add_mul, Nat.one_mul] at h1
    generalize M * 2 ^ (64 - B) = X at *
    generalize 2 ^ (64 - B - 1) = T at *
    omega
  · intro hm
    have : 53 ≤ B := by
      rcases Nat.lt_or_ge B 53 with hlt | hge
      · have : 2 ^ B ≤ 2 ^ 52 := Nat.pow_le_pow_right (by decide) (by omega)
        omega
      · exact hge
    omega
/-- The first digit of a number isn't nought. -/
theorem pow_nd (u : Nat) (h : 1 ≤ u) : 10 ^ (Lib.nDigits u - 1) ≤ u := by
  have := Lib.nDigits_pos u
  generalize hn : Lib.nDigits u = n at *
  match n, this with
  | 1, _ => simpa using h
  | k + 2, _ =>
    rcases Nat.lt_or_ge u (10 ^ (k + 1)) with hlt | hge
    · have := nDigits_le k u hlt
      omega
    · exact hge
theorem dgt_first (d : Nat) (h : 1 ≤ d) : dgt d (Lib.nDigits d) 0 ≠ 48 := by
  have h1 := pow_nd d h
  have h2 := Lib.lt_pow_nDigits d
  have h3 := Lib.nDigits_pos d
  have h4 : 10 ^ Lib.nDigits d = 10 * 10 ^ (Lib.nDigits d - 1) := by rw [← Nat.pow_succ']; congr 1; omega
  unfold dgt
  rw [Nat.sub_zero]
  rw [h4] at h2
  have h5 : 0 < 10 ^ (Lib.nDigits d - 1) := Nat.pow_pos (by decide)
  generalize 10 ^ (Lib.nDigits d - 1) = T at *
  have a : 1 ≤ d / T := by rw [Nat.le_div_iff_mul_le h5]; omega
  have b : d / T < 10 := by rw [Nat.div_lt_iff_lt_mul h5]; omega
  omega
theorem dgt_rng (d nd k : Nat) : 48 ≤ dgt d nd k ∧ dgt d nd k ≤ 57 := by unfold dgt; omega
theorem nzf_le (d nd : Nat) : ∀ k, nzf d nd k ≤ k
  | 0 => by unfold nzf; omega
  | k + 1 => by
    have := nzf_le d nd k
    rw [nzf]
    split <;> omega
theorem nzf_pos (d nd : Nat) (h : dgt d nd 0 ≠ 48) : ∀ k, 1 ≤ nzf d nd (k + 1)
  | 0 => by
    rw [nzf, if_neg h]
    omega
  | k + 1 => by
    have := nzf_pos d nd h k
    rw [nzf]
    split <;> omega
end Go.Proofs.PlatenFigure

/- What strconv's ftoa64 comes to in general: a number's text. -/
namespace Go.Proofs.PlatenFigure
open Go.RowKit Go.Shelf
set_option linter.unusedVariables false
set_option linter.unusedSimpArgs false

def FtP (base : Nat) (w : World) (e : Ending) (w' : World) : Prop := ∃ v' l, e = .returned v' ∧ NmN l ∧ w'.ownsRow base 5 1 v' l.length (bv l) ∧ Below base w w'
set_option maxRecDepth 20000 in
set_option maxHeartbeats 8000000 in
theorem ftoa_any (base x : Nat) (v : Value) (w : World) (hx : x < 18446744073709551616) (hf : x / 4503599627370496 % 2048 ≠ 2047) (hL : Lay w) (ho : w.ownsRow base 5 1 v 0 (bv [])) (hb : base ≤ w.heap.size) (hb0 : 0 < base) :
    Calls Tryz.prog 62 #[v, .float .f64 x, .int .u8 103, .int .i64 (-1)] w (FtP base w) := by
  obtain ⟨F, hF⟩ : ∃ F, x / 4503599627370496 % 2048 = F := ⟨_, rfl⟩
  obtain ⟨M0, hM0⟩ : ∃ M, x % 4503599627370496 = M := ⟨_, rfl⟩
  obtain ⟨M1, hM1⟩ : ∃ M, M0 + 4503599627370496 = M := ⟨_, rfl⟩
  have f0 := sbits x w
  have b1 : bits .and .i64 ((x : Int) / 4503599627370496) 2047 = (F : Int) := by
    have := and_field (x / 4503599627370496) (by omega)
    rw [hF] at this
    exact this
  have b2 : bits .and .u64 (x : Int) 4503599627370495 = (M0 : Int) := by
    have := and_mant x hx
    rw [hM0] at this
    exact this
  have b3 : bits .or .u64 (M0 : Int) 4503599627370496 = (M1 : Int) := by
    have := or_mant M0 (by omega)
    rw [hM1] at this
    exact this
  have hF1 : F < 2047 := by omega
  have q1 : ((F : Int) == 2047) = false := by simp only [beq_eq_false_iff_ne, ne_eq]; omega
  have hM2 : M0 < 4503599627370496 := by omega
  have hM3 : M1 < 9007199254740992 := by omega
  have HM1 := hidden hM1
  have HL := hidden hL
  have HO := hidden ho
  have HBB := hidden hb
  clear hL ho hb hF hM0 hM1 hf
  unfold FtP
  go_enter Tryz.func62, Tryz.ntmps62
  go_wp2_with fail
  go_quiet (fail)
  have HB1 := hidden (below_drewN (Below.refl w.heap.size w) nq)
  generalize w.drewN nq = w1 at *
  go_upto_if 78 with fail
  go_cut [14, 15] from 78 to 84 (fun a b wx => ∃ (E M : Nat), a = .int .i64 E ∧ b = .int .u64 M ∧ 1 ≤ E ∧ E ≤ 2046 ∧ M < 9007199254740992 ∧ (1 < E → 4503599627370496 ≤ M) ∧ w1 = wx)
  case first =>
    by_cases q : F = 0
    · subst q
      go_wp2_with fail
      go_meet
      exact ⟨1, M0, rfl, rfl, by omega, by omega, by omega, by omega, rfl⟩
    · have q2 : ((F : Int) == 0) = false := by simp only [beq_eq_false_iff_ne, ne_eq]; omega
      have HQ := hidden q
      clear q
      go_wp2_with fail
      go_meet
      exact ⟨F, M1, rfl, rfl, by have := HQ.out; omega, by omega, hM3, by have := HM1.out; omega, rfl⟩
  case rest =>
  obtain ⟨E, M, rfl, rfl, hE1, hE2, hM4, hEM, rfl⟩ := hcut
  have HEM := hidden hEM
  clear hEM b1 b2 b3 q1 hM2 hM3 hF1 f0
  by_cases q : M = 0
  · subst q
    have hO : Hid (Out base 0 w1 w1 v []) := by
      refine ⟨own_below HO.out HB1.out, ?_, ?_, Nat.le_trans HBB.out HB1.out.size, Below.refl _ _, rfl⟩
      · intro e
        have := (HO.out.lt 0 e).1
        omega
      · have := HB1.out.size
        have := HBB.out
        omega
    have c1 := fun neg => efg_0 base 0 neg v w1 hO.out
    go_wp2_with fail
    refine (c1 _).mono ?_
    rintro e w5 ⟨v', l, rfl, hl, hO5⟩
    have HO5 := hidden hO5
    have HN := hidden hl
    clear hO5 hl
    go_wp2_with fail
    go_ret
    exact ⟨_, l, rfl, HN.out, HO5.out.own, (HB1.out.mono HBB.out).trans HO5.out.be⟩
  · obtain ⟨s, m, hj⟩ := lj_of M q hM4
    have hs1 := hj.s1
    have hs2 := hj.s2
    have hm1 := hj.m1
    have hm2 : m < 18446744073709551616 := Nat.lt_of_le_of_lt (Nat.le_add_right _ _) hj.m2
    obtain ⟨B0, hB0⟩ : ∃ B0, Lib.bitLen M = B0 := ⟨_, rfl⟩
    have eB : (64 : Int) - (B0 : Int) = (s : Int) := by have := hj.len; omega
    have q2 : ((M : Int) == 0) = false := by simp only [beq_eq_false_iff_ne, ne_eq]; omega
    have c1 := fun w2 => Tryz.bits_Len64 (M : Int) w2 (by omega) (by omega)
    rw [show (Lib.bitLen (M : Int).toNat) = B0 from hB0] at c1
    have HJ := hidden hj
    clear q hj hB0
    go_wp2_with fail
    refine (c1 _).mono ?_
    rintro e w2 ⟨rfl, hw2⟩
    have hz : ∀ j, j < 32 → w2.cell? ⟨w1.heap.size, j, none⟩ = some (.int .u8 0) ∧ w2.frozen? ⟨w1.heap.size, j, none⟩ = false := by
      intro j hj
      rw [hw2]
      refine ⟨?_, by simp⟩
      rw [World.cell?_alloc_new]
      show (Array.replicate 32 (Value.int .u8 0))[j]? = _
      simp [hj]
    have hs2 : w1.heap.size < w2.heap.size := by rw [hw2]; simp
    have HB2 : Hid (Below w.heap.size w w2) := by rw [hw2]; exact HB1.out.alloc HB1.out.size _
    have hB1 : w.heap.size ≤ w1.heap.size := HB1.out.size
    have HZ := hidden hz
    clear hw2 c1 hz
    generalize w1.heap.size = B at *
    obtain ⟨ex, hex⟩ : ∃ ex : Int, (E : Int) - 1075 - (s : Int) = ex := ⟨_, rfl⟩
    have hzz : (s : Int) = if -1085 ≤ ex then 11 else -1074 - ex := by
      have := HJ.out.big
      have := HEM.out
      split <;> omega
    have c2 := short_any m s ex w2 hm1 hm2 (by omega) (by omega) hzz HJ.out.m2 (HL.out.below HB2.out).hw (HL.out.below HB2.out).p10
    have ew : IntKind.u64.wrap ((M : Int) * 2 ^ s) = (m : Int) := by
      have h1 : (M : Int) * 2 ^ s = ((M * 2 ^ s : Nat) : Int) := by push_cast; rfl
      rw [h1, HJ.out.eq, IntKind.wrap_u64]
      omega
    have e1 : (E : Int) + -1023 - (s : Int) - 52 = ex := by omega
    clear hzz hex
    go_wp2_with fail
    refine c2.mono ?_
    rintro e w3 ⟨d, p, rfl, hd1, hd2, hp1, hp2, hb3⟩
    have HB3 := hidden hb3
    have HZ3 : Hid (∀ j, j < 32 → w3.cell? ⟨B, j, none⟩ = some (.int .u8 0) ∧ w3.frozen? ⟨B, j, none⟩ = false) := fun j hj =>
      ⟨(hb3.cell (p := ⟨B, j, none⟩) hs2).trans (HZ.out j hj).1, (hb3.frozen (p := ⟨B, j, none⟩) hs2).trans (HZ.out j hj).2⟩
    have hs3 : B < w3.heap.size := by have := hb3.size; omega
    have HB3 := hidden (HB2.out.trans (hb3.mono HB2.out.size))
    obtain ⟨n, hn⟩ : ∃ n, Lib.nDigits d = n := ⟨_, rfl⟩
    have hn1 : 1 ≤ n := by have := Lib.nDigits_pos d; omega
    have hn20 : n ≤ 20 := by have := nDigits_le 19 d (by omega); omega
    have hdn : d < 10 ^ n := by have := Lib.lt_pow_nDigits d; rwa [hn] at this
    have hfst : dgt d n 0 ≠ 48 := by have := dgt_first d hd1; rwa [hn] at this
    obtain ⟨nz, hnz⟩ : ∃ nz, nzf d n n = nz := ⟨_, rfl⟩
    have hz1 : 1 ≤ nz := by
      have := nzf_pos d n hfst (n - 1)
      rw [show n - 1 + 1 = n by omega] at this
      omega
    have hz2 : nz ≤ n := by have := nzf_le d n n; omega
    obtain ⟨dp, hdp⟩ : ∃ dp, (n : Int) + p = dp := ⟨_, rfl⟩
    clear hb3 c2
    have c3 : ∀ w2, w2.heap = w3.heap → Calls Tryz.prog 64 #[.int .u64 d] w2 fun e w' => e = .returned (.int .i64 (n : Nat)) ∧ w' = w2 := by
      intro w2 hh
      have ht : Lib.TabIs Tryz.prog w2 "internal/strconv.uint64pow10" .u64 Lib.pow10Tab := by
        have := (HL.out.below HB3.out).u10
        unfold Lib.TabIs World.var? at this ⊢
        rw [hh]; exact this
      have := Tryz.internal_strconv_numDigits d hd1 hd2 w2 ht
      rw [hn] at this
      exact this
    have c4 : ∀ w2, w2.heap = w3.heap → Below w.heap.size w w2 → Calls Tryz.prog 78 #[.slice (some ⟨B, 0, none⟩) 32 32, .int .u64 d, .int .i64 p, .int .i64 (n : Nat)] w2 fun e w' =>
        e = .returned (.tuple #[.int .i64 dp, .int .i64 (nz : Nat)]) ∧ (∀ j, j < nz → w'.cell? ⟨B, j, none⟩ = some (.int .u8 (dgt d n j : Nat))) ∧ B < w'.heap.size ∧ Below w.heap.size w w' := by
      intro w2 hh hb2
      have := setd_any B d n p w2 hn1 hn20 hdn hd2 (by omega) (by omega) (by
        intro j hj
        have := HZ3.out j hj
        unfold World.cell? World.frozen? at this ⊢
        rw [hh]; exact this)
      refine this.mono ?_
      rintro e w' ⟨rfl, hc, hbut⟩
      refine ⟨by rw [hnz, hdp], fun j hj => hc j (by omega), ?_, ?_⟩
      · rw [hbut.size, hh]; exact hs3
      · exact ⟨hbut.os.trans hb2.os, hbut.tape.trans hb2.tape, hbut.output.trans hb2.output, by rw [hbut.size]; exact hb2.size, fun k hk => (hbut.block k (by omega)).trans (hb2.block k hk)⟩
    have HBn : ∀ n, Below w.heap.size w (w3.drewN n) := fun n => below_drewN HB3.out n
    have hdp1 : -900 ≤ dp := by omega
    have hdp2 : dp ≤ 900 := by omega
    clear ew e1 eB hnz hdp hn hfst hdn HJ hm1 hm2 q2
    go_wp2_with fail
    go_cut [22, 23] from 139 to 147 (fun a b wx => a = .int .i64 dp ∧ b = .int .i64 (nz : Nat) ∧ (∀ j, j < nz → wx.cell? ⟨B, j, none⟩ = some (.int .u8 (dgt d n j : Nat))) ∧ B < wx.heap.size ∧ Below w.heap.size w wx)
    case first =>
      go_region_with (first
        | (go_at_call 64; refine Calls.mono (c3 _ rfl) ?_; rintro e w' ⟨rfl, rfl⟩)
        | (go_at_call 78; refine Calls.mono (c4 _ rfl ⟨HB3.out.os, HB3.out.tape, HB3.out.output, HB3.out.size, HB3.out.block⟩) ?_; rintro e w' ⟨rfl, q1, q2, q3⟩))
      all_goals (go_wp2_with fail; go_meet; exact ⟨rfl, rfl, q1, q2, ⟨q3.os, q3.tape, q3.output, q3.size, q3.block⟩⟩)
    case rest =>
    obtain ⟨rfl, rfl, q1, q2, q3⟩ := hcut
    have HQ := hidden q3
    have HBuf := hidden (show Buf B nz (fun j => dgt d n j) wc from ⟨q1, fun j _ => (dgt_rng d n j).1, fun j _ => (dgt_rng d n j).2⟩)
    clear q3 q1 c3 c4 HBn
    have HOut : Hid (Out base B wc wc v []) := by
      have hne : v.ownBlock ≠ some B := by
        intro e
        have := (HO.out.lt B e).2
        omega
      exact ⟨own_below HO.out HQ.out, hne, q2, Nat.le_trans HBB.out HQ.out.size, Below.refl _ _, rfl⟩
    have c5 : ∀ neg, Calls Tryz.prog 75 #[v, .bool neg, .slice (some ⟨B, 0, none⟩) 32 32, .int .i64 dp, .int .i64 (nz : Nat), .int .i64 (nz : Nat), .int .u8 103, .bool true] wc (EfgP base B wc) := fun neg => by
      by_cases qd : dp < -3 ∨ 6 < dp
      · exact efg_e base B nz _ dp neg v _ HOut.out HBuf.out hz1 (by omega) qd hdp1 hdp2
      · exact efg_f base B nz _ dp neg v _ HOut.out HBuf.out hz1 (by omega) (by omega) (by omega)
    go_wp2_with fail
    refine (c5 _).mono ?_
    rintro e w5 ⟨v', l, rfl, hl, hO5⟩
    have HO5 := hidden hO5
    have HN := hidden hl
    clear hO5 hl
    go_wp2_with fail
    go_ret
    exact ⟨_, l, rfl, HN.out, HO5.out.own, (HQ.out.mono HBB.out).trans HO5.out.be⟩
end Go.Proofs.PlatenFigure
