/- What the small parts of strconv's scaling come to. -/
import Derived.Test.YtgijplljpimbmaaGreatDoorFgC
import GoSem.PinnedTables
namespace Go.Proofs.PlatenFigure
open Go.RowKit Go.Shelf
set_option linter.unusedVariables false

set_option maxRecDepth 20000 in
theorem log2_any (x : Int) (w : World) (h1 : -2000 ≤ x) (h2 : x ≤ 2000) :
    Calls Tryz.prog 106 #[.int .i64 x] w fun e w' => e = .returned (.int .i64 (x * 108853 / 32768)) ∧ w' = w := by
  go_enter Tryz.func106, Tryz.ntmps106
  go_wp2
  go_ret
  exact ⟨rfl, rfl⟩
set_option maxRecDepth 20000 in
theorem log10_any (x : Int) (w : World) (h1 : -2000 ≤ x) (h2 : x ≤ 2000) :
    Calls Tryz.prog 79 #[.int .i64 x] w fun e w' => e = .returned (.int .i64 (x * 78913 / 262144)) ∧ w' = w := by
  go_enter Tryz.func79, Tryz.ntmps79
  go_wp2
  go_ret
  exact ⟨rfl, rfl⟩
set_option maxRecDepth 20000 in
theorem skewed_any (x : Int) (w : World) (h1 : -2000 ≤ x) (h2 : x ≤ 2000) :
    Calls Tryz.prog 104 #[.int .i64 x] w fun e w' => e = .returned (.int .i64 ((x * 631305 - 261663) / 2097152)) ∧ w' = w := by
  go_enter Tryz.func104, Tryz.ntmps104
  go_wp2
  go_ret
  exact ⟨rfl, rfl⟩
set_option maxRecDepth 20000 in
theorem floor_any (u : Nat) (w : World) (h1 : u < 2 ^ 63) :
    Calls Tryz.prog 110 #[.int .u64 u] w fun e w' => e = .returned (.int .u64 (u / 4 : Nat)) ∧ w' = w := by
  go_enter Tryz.func110, Tryz.ntmps110
  go_wp2
  go_ret
  exact ⟨rfl, rfl⟩
theorem bits_and_nat (x y : Nat) (hx : x < 2 ^ 64) (hy : y < 2 ^ 64) : bits .and .u64 x y = ((x &&& y : Nat) : Int) := by
  have h : x &&& y < 2 ^ 64 := Nat.lt_of_le_of_lt Nat.and_le_left hx
  show IntKind.u64.wrap ((BitVec.ofInt 64 (x : Int) &&& BitVec.ofInt 64 (y : Int)).toNat : Int) = _
  rw [BitVec.ofInt_natCast, BitVec.ofInt_natCast, BitVec.toNat_and, BitVec.toNat_ofNat, BitVec.toNat_ofNat, Nat.mod_eq_of_lt hx, Nat.mod_eq_of_lt hy, IntKind.wrap_u64]
  omega
theorem bits_or_nat (x y : Nat) (hx : x < 2 ^ 64) (hy : y < 2 ^ 64) : bits .or .u64 x y = ((x ||| y : Nat) : Int) := by
  have h : x ||| y < 2 ^ 64 := Nat.or_lt_two_pow hx hy
  show IntKind.u64.wrap ((BitVec.ofInt 64 (x : Int) ||| BitVec.ofInt 64 (y : Int)).toNat : Int) = _
  rw [BitVec.ofInt_natCast, BitVec.ofInt_natCast, BitVec.toNat_or, BitVec.toNat_ofNat, BitVec.toNat_ofNat, Nat.mod_eq_of_lt hx, Nat.mod_eq_of_lt hy, IntKind.wrap_u64]
  omega
theorem bits_and_one (x : Nat) (hx : x < 2 ^ 64) : bits .and .u64 x 1 = ((x % 2 : Nat) : Int) := by
  have := bits_and_nat x 1 hx (by decide)
  rw [Nat.and_one_is_mod] at this
  exact this
set_option maxRecDepth 20000 in
theorem round_any (u : Nat) (w : World) (h1 : u < 2 ^ 63) :
    Calls Tryz.prog 111 #[.int .u64 u] w fun e w' => e = .returned (.int .u64 ((u + 1 + u / 4 % 2) / 4 : Nat)) ∧ w' = w := by
  have e : bits .and .u64 ((u : Int) / 4) 1 = ((u / 4 % 2 : Nat) : Int) := bits_and_one (u / 4) (by omega)
  have h2 : u / 4 % 2 < 2 := Nat.mod_lt _ (by decide)
  generalize u / 4 % 2 = r at *
  go_enter Tryz.func111, Tryz.ntmps111
  go_wp2
  go_ret
  exact ⟨rfl, rfl⟩
set_option maxRecDepth 20000 in
theorem ceil_any (u : Nat) (w : World) (h1 : u < 2 ^ 63) :
    Calls Tryz.prog 109 #[.int .u64 u] w fun e w' => e = .returned (.int .u64 ((u + 3) / 4 : Nat)) ∧ w' = w := by
  go_enter Tryz.func109, Tryz.ntmps109
  go_wp2
  go_ret
  exact ⟨rfl, rfl⟩
set_option maxRecDepth 20000 in
theorem unmin_any (x : Nat) (w : World) (h0 : 1 ≤ x) (h1 : x < 2 ^ 62) :
    Calls Tryz.prog 112 #[.int .u64 x] w fun e w' => e = .returned (.int .u64 (x * 4 - 2 : Nat)) ∧ w' = w := by
  have e : ((x * 4 - 2 : Nat) : Int) = (x : Int) * 4 - 2 := by omega
  rw [e]
  go_enter Tryz.func112, Tryz.ntmps112
  go_wp2
  go_ret
  exact ⟨rfl, rfl⟩
set_option maxRecDepth 20000 in
theorem nudge_any (u : Nat) (d : Int) (w : World) (h1 : u < 2 ^ 63) (h2 : -1 ≤ d) (h3 : d ≤ 1) (h4 : 0 ≤ u + d) :
    Calls Tryz.prog 108 #[.int .u64 u, .int .i64 d] w fun e w' => e = .returned (.int .u64 (u + d)) ∧ w' = w := by
  have e : IntKind.u64.wrap (u + IntKind.u64.wrap d) = u + d := by
    rw [IntKind.wrap_u64, IntKind.wrap_u64]; omega
  go_enter Tryz.func108, Tryz.ntmps108
  go_wp2
  go_ret
  exact ⟨rfl, rfl⟩
theorem bool2u_any (b : Bool) (w : World) : Calls Tryz.prog 97 #[.bool b] w fun e w' => e = .returned (.int .u64 (if b then 1 else 0)) ∧ w' = w := by
  cases b
  · go_enter Tryz.func97, Tryz.ntmps97
    go_wp2
    go_ret
    exact ⟨rfl, rfl⟩
  · go_enter Tryz.func97, Tryz.ntmps97
    go_wp2
    go_ret
    exact ⟨rfl, rfl⟩

/-- The tables that the text lays: hi and lo of the powers of ten. -/
def p10 : List (Nat × Nat) := Go.Pinned.pow10Rows
theorem p10_fit : (p10.all fun x => decide (x.1 < 2 ^ 64 ∧ x.2 < 2 ^ 64)) = true := by decide +kernel
theorem p10_len : p10.length = 696 := by decide +kernel
def pHi (i : Nat) : Nat := (p10.getD i (0, 0)).1
def pLo (i : Nat) : Nat := (p10.getD i (0, 0)).2
theorem p_fit (i : Nat) : pHi i < 2 ^ 64 ∧ pLo i < 2 ^ 64 := by
  unfold pHi pLo
  by_cases h : i < p10.length
  · have := List.all_eq_true.1 p10_fit p10[i] (List.getElem_mem h)
    rw [List.getD_eq_getElem?_getD, List.getElem?_eq_getElem h]
    simpa using this
  · rw [List.getD_eq_getElem?_getD, List.getElem?_eq_none (by omega)]
    decide
def P10 (w : World) : Prop := ∀ i, i < 696 → w.cell? ⟨10, i * 2, none⟩ = some (.int .u64 (pHi i : Nat)) ∧ w.cell? ⟨10, i * 2 + 1, none⟩ = some (.int .u64 (pLo i : Nat))

set_option maxRecDepth 20000 in
set_option maxHeartbeats 1000000 in
theorem prescale_any (e p lp : Int) (k : Nat) (w : World) (a0 a1 a2 : Value) (hk : p = k - 348) (hk2 : k < 696) (he : -5000 ≤ e) (he2 : e ≤ 5000) (hl : -5000 ≤ lp) (hl2 : lp ≤ 5000) (hw : 11 ≤ w.heap.size) (hP : P10 w) :
    Calls Tryz.prog 105 #[.pointer (some ⟨w.heap.size, 0, none⟩), .int .i64 e, .int .i64 p, .int .i64 lp] (w.alloc (.cells #[.int .u64 0, .int .u64 0, .int .i64 0] 134)) fun e' w' =>
      e' = .returned (.tuple #[]) ∧ w' = w.alloc (.cells #[.int .u64 (pHi k : Nat), .int .u64 (pLo k : Nat), .int .i64 (-(e + lp + 3))] 134) := by
  obtain ⟨hi, lo⟩ := hP k hk2
  have HX := hidden hk
  have e1 : p - -348 = k := by omega
  clear hk
  have A1 : ∀ o, (w.alloc o).cell? ⟨10, k * 2, none⟩ = some (.int .u64 (pHi k : Nat)) := fun o => (World.cell?_alloc_lt w o (a := ⟨10, k * 2, none⟩) (show (10 : Nat) < w.heap.size by omega)).trans hi
  have A2 : ∀ o, (w.alloc o).cell? ⟨10, k * 2 + 1, none⟩ = some (.int .u64 (pLo k : Nat)) := fun o => (World.cell?_alloc_lt w o (a := ⟨10, k * 2 + 1, none⟩) (show (10 : Nat) < w.heap.size by omega)).trans lo
  have b1 : -348 ≤ p := by omega
  have b2 : p < 348 := by omega
  go_enter Tryz.func105, Tryz.ntmps105
  go_wp2
  go_end0
  exact ⟨rfl, rfl⟩

theorem and63 : ∀ s : Nat, s < 64 → bits .and .i64 (s : Int) 63 = s := by decide
/-- The scaling of a number by a power of ten, as it is done: by the product's upper half, its lower half, and the upper half of what the table's lower half takes away. -/
def uscT (h m m2 s : Nat) : Nat :=
  if h / 2 ^ s * 2 ^ s = h then
    ((h + (if m < m2 then 18446744073709551615 else 0)) % 18446744073709551616 / 2 ^ s) ||| (if 1 < (m + 18446744073709551616 - m2) % 18446744073709551616 then 1 else 0)
  else (h / 2 ^ s) ||| 1
def usc (x ph pl s : Nat) : Nat := uscT (x * ph / 18446744073709551616) (x * ph % 18446744073709551616) (x * pl / 18446744073709551616) s

theorem wrap_sub (a b : Nat) (ha : a < 18446744073709551616) (hb : b < 18446744073709551616) : IntKind.u64.wrap ((a : Int) - b) = (((a + 18446744073709551616 - b) % 18446744073709551616 : Nat) : Int) := by
  rw [IntKind.wrap_u64]; omega

set_option maxRecDepth 20000 in
set_option maxHeartbeats 4000000 in
theorem uscale_any (x ph pl s b : Nat) (w : World) (hx : x < 18446744073709551616) (hh : ph < 18446744073709551616) (hl : pl < 18446744073709551616) (hs : s < 64)
    (h0 : w.cell? ⟨b, 0, none⟩ = some (.int .u64 ph)) (h1 : w.cell? ⟨b, 1, none⟩ = some (.int .u64 pl)) (h2 : w.cell? ⟨b, 2, none⟩ = some (.int .i64 s)) :
    Calls Tryz.prog 107 #[.int .u64 x, .pointer (some ⟨b, 0, none⟩)] w fun e w' => e = .returned (.int .u64 (usc x ph pl s : Nat)) ∧ ∃ n, w' = w.drewN n := by
  have m1 := Tryz.bits_Mul64 x ph hx hh w
  have m2 := Tryz.bits_Mul64 x pl hx hl w
  have e63 := and63 s hs
  have bH : x * ph / 18446744073709551616 < 18446744073709551616 := by
    rw [Nat.div_lt_iff_lt_mul (by decide)]; exact Nat.mul_lt_mul'' hx hh
  have bM : x * ph % 18446744073709551616 < 18446744073709551616 := Nat.mod_lt _ (by decide)
  have bM2 : x * pl / 18446744073709551616 < 18446744073709551616 := by
    rw [Nat.div_lt_iff_lt_mul (by decide)]; exact Nat.mul_lt_mul'' hx hl
  have HX : Hid (usc x ph pl s = uscT (x * ph / 18446744073709551616) (x * ph % 18446744073709551616) (x * pl / 18446744073709551616) s) := rfl
  generalize usc x ph pl s = R at *
  generalize x * ph / 18446744073709551616 = H at *
  generalize x * ph % 18446744073709551616 = M at *
  generalize x * pl / 18446744073709551616 = M2 at *
  generalize x * pl % 18446744073709551616 = Z at *
  have hp : 0 < 2 ^ s := Nat.two_pow_pos s
  have bq : H / 2 ^ s < 18446744073709551616 := Nat.lt_of_le_of_lt (Nat.div_le_self _ _) bH
  have e1 : (H : Int) / 2 ^ s = ((H / 2 ^ s : Nat) : Int) := by push_cast; rfl
  have br : H / 2 ^ s * 2 ^ s ≤ H := Nat.div_mul_le_self _ _
  have e2 : IntKind.u64.wrap (((H / 2 ^ s : Nat) : Int) * 2 ^ s) = ((H / 2 ^ s * 2 ^ s : Nat) : Int) := by
    have e : ((H / 2 ^ s : Nat) : Int) * 2 ^ s = ((H / 2 ^ s * 2 ^ s : Nat) : Int) := by push_cast; rfl
    rw [e, IntKind.wrap_u64]
    omega
  by_cases hr : H / 2 ^ s * 2 ^ s = H
  · have HY : Hid (R = ((H + (if M < M2 then 18446744073709551615 else 0)) % 18446744073709551616 / 2 ^ s) ||| (if 1 < (M + 18446744073709551616 - M2) % 18446744073709551616 then 1 else 0)) := by
      unfold Hid; rw [HX.out]; unfold uscT; rw [if_pos hr]
    rw [hr] at e2
    clear hr HX
    have e5 := wrap_sub M M2 bM bM2
    have bD : (M + 18446744073709551616 - M2) % 18446744073709551616 < 18446744073709551616 := Nat.mod_lt _ (by decide)
    have bG : (H + (if M < M2 then 18446744073709551615 else 0)) % 18446744073709551616 < 18446744073709551616 := Nat.mod_lt _ (by decide)
    have e4 : IntKind.u64.wrap ((H : Int) - (if decide (M < M2) then 1 else 0)) = (((H + (if M < M2 then 18446744073709551615 else 0)) % 18446744073709551616 : Nat) : Int) := by
      rw [IntKind.wrap_u64]
      by_cases hm : M < M2
      · rw [if_pos hm, if_pos (by simpa using hm)]; omega
      · rw [if_neg hm, if_neg (by simpa using hm)]; omega
    generalize (M + 18446744073709551616 - M2) % 18446744073709551616 = D at *
    generalize (H + (if M < M2 then 18446744073709551615 else 0)) % 18446744073709551616 = G at *
    have e6 : (G : Int) / 2 ^ s = ((G / 2 ^ s : Nat) : Int) := by push_cast; rfl
    have bg : G / 2 ^ s < 18446744073709551616 := Nat.lt_of_le_of_lt (Nat.div_le_self _ _) bG
    have c1 := bool2u_any (decide (M < M2)) w
    generalize hT1 : decide (M < M2) = t1 at *
    generalize H / 2 ^ s = q at *
    have hne : ((H : Int) != H) = false := by simp
    by_cases hd : 1 < D
    · have HE : Hid (bits .or .u64 ((G / 2 ^ s : Nat) : Int) 1 = (R : Int)) := by
        unfold Hid; rw [HY.out, if_pos hd]; exact bits_or_nat _ 1 bg (by decide)
      have hd1 : (1 : Int) < D := by omega
      clear HY hd
      generalize G / 2 ^ s = g at *
      cases t1 <;> simp only [Bool.false_eq_true, if_false, if_true] at c1 e4
      all_goals
        have e4' := e4
        try simp only [Int.sub_zero] at e4'
        go_enter Tryz.func107, Tryz.ntmps107
        go_wp2_with fail
        refine m1.mono ?_
        rintro e w' ⟨rfl, rfl⟩
        go_wp2_with fail
        refine m2.mono ?_
        rintro e w' ⟨rfl, rfl⟩
        go_wp2_with fail
        refine c1.mono ?_
        rintro e w' ⟨rfl, rfl⟩
        go_wp2_with fail
        go_quiet ((go_at_call 97; exact Calls.quiet_of_same (bool2u_any _ _)))
        go_wp2
        go_ret
        exact ⟨by rw [← HE.out]; rfl, _, rfl⟩
    · have HE : Hid (bits .or .u64 ((G / 2 ^ s : Nat) : Int) 0 = (R : Int)) := by
        unfold Hid; rw [HY.out, if_neg hd]; exact bits_or_nat _ 0 bg (by decide)
      have hd1 : ¬ (1 : Int) < D := by omega
      clear HY hd
      generalize G / 2 ^ s = g at *
      cases t1 <;> simp only [Bool.false_eq_true, if_false, if_true] at c1 e4
      all_goals
        have e4' := e4
        try simp only [Int.sub_zero] at e4'
        go_enter Tryz.func107, Tryz.ntmps107
        go_wp2_with fail
        refine m1.mono ?_
        rintro e w' ⟨rfl, rfl⟩
        go_wp2_with fail
        refine m2.mono ?_
        rintro e w' ⟨rfl, rfl⟩
        go_wp2_with fail
        refine c1.mono ?_
        rintro e w' ⟨rfl, rfl⟩
        go_wp2_with fail
        go_quiet ((go_at_call 97; exact Calls.quiet_of_same (bool2u_any _ _)))
        go_wp2
        all_goals first
          | (exfalso; omega)
          | (go_ret
             exact ⟨by rw [← HE.out]; rfl, _, rfl⟩)
  · have HY : Hid (R = (H / 2 ^ s) ||| 1) := by
      unfold Hid; rw [HX.out]; unfold uscT; rw [if_neg hr]
    have HE : Hid (bits .or .u64 ((H / 2 ^ s : Nat) : Int) 1 = (R : Int)) := by
      unfold Hid; rw [HY.out]; exact bits_or_nat _ 1 bq (by decide)
    have hne : (((H / 2 ^ s * 2 ^ s : Nat) : Int) != H) = true := by
      simp only [bne_iff_ne, ne_eq]; omega
    clear HX HY hr
    generalize H / 2 ^ s * 2 ^ s = r at *
    generalize H / 2 ^ s = q at *
    go_enter Tryz.func107, Tryz.ntmps107
    go_wp2_with fail
    refine m1.mono ?_
    rintro e w' ⟨rfl, rfl⟩
    go_wp2
    go_ret
    exact ⟨by rw [← HE.out]; rfl, 0, rfl⟩
end Go.Proofs.PlatenFigure
