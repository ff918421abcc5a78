/- What strconv.parseFloat64 comes to. -/
import Derived.Test.YtgijplljpimbmaaGreatDoorFgXd
namespace Go.Proofs.PlatenFigure
open Go.RowKit
set_option linter.unusedVariables false
set_option maxRecDepth 20000

theorem bl_all : ∀ (f d : Nat), d < 2 ^ f → f ≤ 64 → Lib.bitLen d ≤ f ∧ d < 2 ^ Lib.bitLen d
  | 0, d, h, hf => by
    obtain rfl : d = 0 := by simpa using h
    decide
  | f + 1, d, h, hf => by
    by_cases h0 : d = 0
    · subst h0; exact ⟨by show Lib.bitLen 0 ≤ _; rw [show Lib.bitLen 0 = 0 from rfl]; omega, by decide⟩
    · have h64 : d < 2 ^ 64 := Nat.lt_of_lt_of_le h (Nat.pow_le_pow_right (by decide) hf)
      rw [Lib.bitLen_half d h0 h64]
      have ih := bl_all f (d / 2) (by rw [Nat.div_lt_iff_lt_mul (by decide), ← Nat.pow_succ]; exact h) (by omega)
      refine ⟨by omega, ?_⟩
      rw [Nat.add_comm, Nat.pow_succ]
      have := ih.2
      omega
theorem bl_pos {d : Nat} (h0 : 0 < d) (h : d < 2 ^ 64) : 1 ≤ Lib.bitLen d ∧ Lib.bitLen d ≤ 64 ∧ d * 2 ^ (64 - Lib.bitLen d) < 18446744073709551616 := by
  have := bl_all 64 d h (by decide)
  have h1 := Lib.bitLen_half d (by omega) h
  refine ⟨by omega, this.1, ?_⟩
  have h2 : d * 2 ^ (64 - Lib.bitLen d) < 2 ^ Lib.bitLen d * 2 ^ (64 - Lib.bitLen d) := Nat.mul_lt_mul_of_pos_right this.2 (Nat.two_pow_pos _)
  rw [← Nat.pow_add, show Lib.bitLen d + (64 - Lib.bitLen d) = 64 by omega] at h2
  exact h2
theorem usc_lt (x ph pl s : Nat) (hx : x < 18446744073709551616) (hh : ph < 18446744073709551616) (hs : 8 ≤ s) : usc x ph pl s < 2 ^ 56 := by
  have bH : x * ph / 18446744073709551616 < 18446744073709551616 := by
    rw [Nat.div_lt_iff_lt_mul (by decide)]; exact Nat.mul_lt_mul'' hx hh
  have key : ∀ G, G < 18446744073709551616 → G / 2 ^ s < 2 ^ 56 := fun G hG => by
    rw [Nat.div_lt_iff_lt_mul (Nat.two_pow_pos _), ← Nat.pow_add]
    exact Nat.lt_of_lt_of_le hG (Nat.pow_le_pow_right (n := 2) (by decide) (show 64 ≤ 56 + s by omega))
  unfold usc uscT
  split
  · refine Nat.or_lt_two_pow (key _ (Nat.mod_lt _ (by decide))) ?_
    split <;> decide
  · exact Nat.or_lt_two_pow (key _ bH) (by decide)
/-- The places of the number that is rounded, and how far it is shifted. -/
def pfE (d : Nat) (p : Int) : Int := min 1074 (53 - (Lib.bitLen d : Int) - p * 108853 / 32768)
def pfS (d : Nat) (p : Int) : Int := -(pfE d p - (64 - (Lib.bitLen d : Int)) + p * 108853 / 32768 + 3)
def pfU (d : Nat) (p : Int) : Nat := usc (d * 2 ^ (64 - Lib.bitLen d)) (pHi (p + 348).toNat) (pLo (p + 348).toNat) (pfS d p).toNat
def pfR (u : Nat) : Nat × Nat :=
  if 36028797018963966 ≤ u then (((u / 2 ||| u % 2) + 1 + (u / 2 ||| u % 2) / 4 % 2) / 4, 1) else ((u + 1 + u / 4 % 2) / 4, 0)
def pfF (d : Nat) (p : Int) (sign : Nat) : Nat × Bool :=
  if 64 ≤ pfS d p then (sign, false) else pkF (sign ||| (pfR (pfU d p)).1) (-(pfE d p - (pfR (pfU d p)).2))
theorem pfR_le {u : Nat} (h : u < 2 ^ 56) : (pfR u).1 ≤ 9007199254740992 := by
  unfold pfR
  split
  · have : u / 2 ||| u % 2 < 2 ^ 55 := Nat.or_lt_two_pow (by omega) (by omega)
    simp only
    omega
  · simp only
    omega
theorem or_mod (u : Nat) : u ||| u % 2 = u := by
  apply Nat.eq_of_testBit_eq
  intro i
  rw [Nat.testBit_or]
  have : (u % 2).testBit i = (decide (i < 1) && u.testBit i) := by
    have := Nat.testBit_mod_two_pow u 1 i
    simpa using this
  rw [this]
  cases u.testBit i <;> simp
def PfP (p : Nat × Bool) (w : World) (e : Ending) (w' : World) : Prop := e = .returned (.tuple #[.float .f64 p.1, erV p.2]) ∧ Below w.heap.size w w'
set_option maxHeartbeats 4000000 in
theorem parse64_any (d : Nat) (p : Int) (sg : Nat) (w : World) (hL : Lay w) (h0 : 0 < d) (hd : d < 18446744073709551616) (h1 : -345 ≤ p) (h2 : p ≤ 310) (hs : sg < 18446744073709551616) :
    Calls Tryz.prog 100 #[.int .u64 (d : Nat), .int .i64 p, .int .u64 (sg : Nat)] w (PfP (pfF d p sg) w) := by
  obtain ⟨b1, b2, b3⟩ := bl_pos h0 hd
  have c1 := fun w2 => Tryz.bits_Len64 (d : Int) w2 (by omega) (by omega)
  rw [Int.toNat_natCast] at c1
  have c2 := fun w2 => log2_any p w2 (by omega) (by omega)
  have HE : Hid (pfE d p = min 1074 (53 - (Lib.bitLen d : Int) - p * 108853 / 32768)) := rfl
  have HS : Hid (pfS d p = -(pfE d p - (64 - (Lib.bitLen d : Int)) + p * 108853 / 32768 + 3)) := rfl
  have hlp1 : -1147 ≤ p * 108853 / 32768 := by omega
  have hlp2 : p * 108853 / 32768 ≤ 1029 := by omega
  have hw := hL.hw
  have hP := hL.p10
  clear hL
  have HF : Hid (pfF d p sg = if 64 ≤ pfS d p then (sg, false) else pkF (sg ||| (pfR (pfU d p)).1) (-(pfE d p - (pfR (pfU d p)).2))) := rfl
  have HU : Hid (pfU d p = usc (d * 2 ^ (64 - Lib.bitLen d)) (pHi (p + 348).toNat) (pLo (p + 348).toNat) (pfS d p).toNat) := rfl
  generalize pfF d p sg = O at *
  generalize pfU d p = U at *
  generalize pfE d p = E at *
  generalize pfS d p = S at *
  generalize p * 108853 / 32768 = lp at *
  generalize Lib.bitLen d = B at *
  have hE1 : -1040 ≤ E ∧ E ≤ 1074 := by have := HE.out; omega
  have hS8 : 8 ≤ S := by have := HS.out; have := HE.out; omega
  have c3 := prescale_any (E - (64 - (B : Int))) p lp (p + 348).toNat w .nilIface .nilIface .nilIface (by omega) (by omega) (by omega) (by omega) (by omega) (by omega) hw hP
  rw [show -(E - (64 - (B : Int)) + lp + 3) = S from HS.out.symm] at c3
  obtain ⟨fh, fl⟩ := p_fit (p + 348).toNat
  have hmin : min 1074 (53 - (B : Int) - lp) = E := HE.out.symm
  have HX : Hid (d * 2 ^ (64 - B) < 18446744073709551616) := b3
  clear HE HS hP b3
  generalize pHi (p + 348).toNat = ph at *
  generalize pLo (p + 348).toNat = pl at *
  by_cases q : 64 ≤ S
  · have HO : Hid (O = (sg, false)) := by rw [HF.out, if_pos q]; exact rfl
    have hsf := sfrom (sg : Int) (w.alloc (.cells #[.int .u64 (ph : Nat), .int .u64 (pl : Nat), .int .i64 S] 134))
    have bo : bits .or .u64 (sg : Int) 0 = (sg : Int) := by
      have := bits_or_nat sg 0 hs (by decide)
      rwa [Nat.or_zero] at this
    have HB := hidden' (show Below w.heap.size w (w.alloc (.cells #[.int .u64 (ph : Nat), .int .u64 (pl : Nat), .int .i64 S] 134)) from (Below.refl _ _).alloc (Nat.le_refl _) _)
    clear HF HU hs
    go_enter Tryz.func100, Tryz.ntmps100
    go_wp2_with fail
    refine (c1 _).mono ?_
    rintro e w' ⟨rfl, rfl⟩
    go_wp2_with fail
    refine (c2 _).mono ?_
    rintro e w' ⟨rfl, rfl⟩
    go_wp2_with fail
    refine c3.mono ?_
    rintro e w' ⟨rfl, rfl⟩
    go_wp2_with fail
    go_ret2
    rw [HO.out]
    exact ⟨rfl, HB.out⟩
  · have hs64 : S < 64 := by omega
    obtain ⟨sN, hsN⟩ : ∃ sN : Nat, S = (sN : Int) := ⟨S.toNat, by omega⟩
    subst hsN
    have hsn : sN < 64 := by omega
    have hU2 : U = usc (d * 2 ^ (64 - B)) ph pl sN := by have := HU.out; rwa [Int.toNat_natCast] at this
    have HU56 : Hid (U < 2 ^ 56) := by unfold Hid; rw [hU2]; exact usc_lt _ _ _ _ HX.out fh (by omega)
    have W0 : (w.alloc (.cells #[.int .u64 (ph : Nat), .int .u64 (pl : Nat), .int .i64 (sN : Int)] 134)).cell? ⟨w.heap.size, 0, none⟩ = some (.int .u64 (ph : Nat)) := by simp
    have W1 : (w.alloc (.cells #[.int .u64 (ph : Nat), .int .u64 (pl : Nat), .int .i64 (sN : Int)] 134)).cell? ⟨w.heap.size, 1, none⟩ = some (.int .u64 (pl : Nat)) := by simp
    have W2 : (w.alloc (.cells #[.int .u64 (ph : Nat), .int .u64 (pl : Nat), .int .i64 (sN : Int)] 134)).cell? ⟨w.heap.size, 2, none⟩ = some (.int .i64 (sN : Int)) := by simp
    have c4 := uscale_any (d * 2 ^ (64 - B)) ph pl sN w.heap.size _ HX.out fh fl hsn W0 W1 W2
    rw [← hU2] at c4
    have nsh : ((64 : Int) - (B : Int)).toNat = 64 - B := by omega
    have esh : IntKind.u64.wrap ((d : Int) * 2 ^ (64 - B)) = ((d * 2 ^ (64 - B) : Nat) : Int) := by
      have e : (d : Int) * 2 ^ (64 - B) = ((d * 2 ^ (64 - B) : Nat) : Int) := by push_cast; rfl
      rw [e, IntKind.wrap_u64]
      have := HX.out
      omega
    have HB := hidden' (show Below w.heap.size w (w.alloc (.cells #[.int .u64 (ph : Nat), .int .u64 (pl : Nat), .int .i64 (sN : Int)] 134)) from (Below.refl _ _).alloc (Nat.le_refl _) _)
    have c5 := fun w2 => unmin_any 9007199254740992 w2 (by decide) (by decide)
    change ∀ w2, Calls Tryz.prog 112 #[.int .u64 9007199254740992] w2 (fun e w' => e = .returned (.int .u64 36028797018963966) ∧ w' = w2) at c5
    have c6 := fun b w2 => Tryz.internal_strconv_bool2_int b w2
    have q' : ¬ (64 : Int) ≤ (sN : Int) := q
    clear HX hU2 HU q hs64
    generalize d * 2 ^ (64 - B) = X at *
    have hFq := HF.out
    rw [if_neg q'] at hFq
    clear HF
    have u56 := HU56.out
    by_cases qu : 36028797018963966 ≤ U
    · have hR : pfR U = (((U / 2 ||| U % 2) + 1 + (U / 2 ||| U % 2) / 4 % 2) / 4, 1) := by unfold pfR; rw [if_pos qu]
      have hle := pfR_le u56
      rw [hR] at hFq hle
      simp only at hFq hle
      have hV : U / 2 ||| U % 2 < 2 ^ 55 := Nat.or_lt_two_pow (by omega) (by omega)
      have ba : bits .and .u64 (U : Int) 1 = ((U % 2 : Nat) : Int) := bits_and_one U (by omega)
      have bo : bits .or .u64 ((U / 2 : Nat) : Int) ((U % 2 : Nat) : Int) = ((U / 2 ||| U % 2 : Nat) : Int) := bits_or_nat _ _ (by omega) (by omega)
      have qz : (36028797018963966 : Int) ≤ (U : Int) := by omega
      have eh : (U : Int) / 2 = ((U / 2 : Nat) : Int) := by omega
      have em : (U : Int) % 2 = ((U % 2 : Nat) : Int) := by omega
      generalize U / 2 = Uh at *
      generalize U % 2 = Um at *
      generalize Uh ||| Um = V at *
      have c7 := fun w2 => round_any V w2 (by omega)
      generalize (V + 1 + V / 4 % 2) / 4 = R at *
      have bs : bits .or .u64 (sg : Int) (R : Int) = ((sg ||| R : Nat) : Int) := bits_or_nat sg R hs (by omega)
      have hsr : sg ||| R < 18446744073709551616 := Nat.or_lt_two_pow (n := 64) hs (by omega)
      generalize sg ||| R = M at *
      have en : -(E - ((1 : Nat) : Int)) = -(E - 1) := by omega
      rw [en] at hFq
      have c8 := fun w2 => pack_any M (-(E - 1)) w2 hsr (by omega) (by omega)
      rw [← hFq] at c8
      clear hFq hR qu u56
      go_enter Tryz.func100, Tryz.ntmps100
      go_wp2_with fail
      refine (c1 _).mono ?_
      rintro e w' ⟨rfl, rfl⟩
      go_wp2_with fail
      refine (c2 _).mono ?_
      rintro e w' ⟨rfl, rfl⟩
      go_wp2_with fail
      refine c3.mono ?_
      rintro e w' ⟨rfl, rfl⟩
      go_wp2_with fail
      refine c4.mono ?_
      rintro e w' ⟨rfl, nq, rfl⟩
      go_wp2_with fail
      refine (c5 _).mono ?_
      rintro e w' ⟨rfl, rfl⟩
      go_wp2_with fail
      refine (c6 _ _).mono ?_
      rintro e w' ⟨rfl, rfl⟩
      go_wp2_with fail
      refine (c7 _).mono ?_
      rintro e w' ⟨rfl, rfl⟩
      go_wp2_with fail
      refine (c8 _).mono ?_
      rintro e w' ⟨rfl, rfl⟩
      go_wp2_with fail
      go_ret2
      exact ⟨rfl, below_drewN HB.out _⟩
    · have hR : pfR U = ((U + 1 + U / 4 % 2) / 4, 0) := by unfold pfR; rw [if_neg qu]
      have hle := pfR_le u56
      rw [hR] at hFq hle
      simp only at hFq hle
      have ba : bits .and .u64 (U : Int) 1 = ((U % 2 : Nat) : Int) := bits_and_one U (by omega)
      have bo : bits .or .u64 (U : Int) ((U % 2 : Nat) : Int) = (U : Int) := by
        have := bits_or_nat U (U % 2) (by omega) (by omega)
        rwa [or_mod] at this
      have qz : decide ((36028797018963966 : Int) ≤ (U : Int)) = false := by simp; omega
      have u56' := hidden' u56
      have qu' := hidden' qu
      have em : (U : Int) % 2 = ((U % 2 : Nat) : Int) := by omega
      have c7 := fun w2 => round_any U w2 (by omega)
      generalize U % 2 = Um at *
      generalize (U + 1 + U / 4 % 2) / 4 = R at *
      have bs : bits .or .u64 (sg : Int) (R : Int) = ((sg ||| R : Nat) : Int) := bits_or_nat sg R hs (by omega)
      have hsr : sg ||| R < 18446744073709551616 := Nat.or_lt_two_pow (n := 64) hs (by omega)
      generalize sg ||| R = M at *
      have en : -(E - ((0 : Nat) : Int)) = -E := by omega
      rw [en] at hFq
      have c8 := fun w2 => pack_any M (-E) w2 hsr (by omega) (by omega)
      rw [← hFq] at c8
      clear hFq hR qu u56
      go_enter Tryz.func100, Tryz.ntmps100
      go_wp2_with fail
      refine (c1 _).mono ?_
      rintro e w' ⟨rfl, rfl⟩
      go_wp2_with fail
      refine (c2 _).mono ?_
      rintro e w' ⟨rfl, rfl⟩
      go_wp2_with fail
      refine c3.mono ?_
      rintro e w' ⟨rfl, rfl⟩
      go_wp2_with fail
      refine c4.mono ?_
      rintro e w' ⟨rfl, nq, rfl⟩
      go_wp2_with fail
      refine (c5 _).mono ?_
      rintro e w' ⟨rfl, rfl⟩
      go_wp2_with fail
      refine (c6 _ _).mono ?_
      rintro e w' ⟨rfl, rfl⟩
      go_wp2_with fail
      refine (c7 _).mono ?_
      rintro e w' ⟨rfl, rfl⟩
      go_wp2_with fail
      refine (c8 _).mono ?_
      rintro e w' ⟨rfl, rfl⟩
      go_wp2_with fail
      go_ret2
      exact ⟨rfl, below_drewN HB.out _⟩
end Go.Proofs.PlatenFigure
