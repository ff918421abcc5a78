/- What strconv.FormatFloat and figure.Show of 0.5 come to. -/
import Derived.Test.YtgijplljpimbmaaGreatDoorFgK
import Derived.OwnWalk
namespace Go.Proofs.PlatenFigure
open Go.RowKit Go.Shelf
set_option linter.unusedVariables false

theorem str_own {w : World} {base : Nat} {v : Value} {l : List Nat} (h : w.ownsRow base 5 1 v l.length (bv l)) (hl : ∀ c ∈ l, c < 256) :
    (convert 68 9 v).run Tryz.prog w = .ok (.string ⟨(l.map UInt8.ofNat).toArray⟩) w := by
  rcases h.2 with ⟨rfl, h0⟩ | ⟨g, cap, cur, rfl, hbg, hg, hnc, hcm, hcs, htake⟩
  · obtain rfl : l = [] := List.length_eq_zero_iff.1 h0
    rw [run_convert_bytes_string w 68 9 5 none 0 0 Tryz.underlying68 Tryz.underlying5 Tryz.underlying9]
    simp [Conv.bytesToString]
    rfl
  · have := run_convert_bytes_back (P := Tryz.prog) w 68 9 5 ⟨g, 0, none⟩ cap (l.map UInt8.ofNat) Tryz.underlying68 Tryz.underlying5 Tryz.underlying9 (fun j hj => by
      rw [List.length_map] at hj
      have hc := h.cells (g := g) rfl j (.int .u8 (l[j] : Nat)) (by simp [bv, hj])
      rw [hc]
      have := hl l[j] (List.getElem_mem hj)
      simp
      omega)
    rw [List.length_map] at this
    exact this

set_option maxRecDepth 20000 in
set_option maxHeartbeats 4000000 in
theorem format_ex (w : World) (hL : Lay w) :
    Calls Tryz.prog 53 #[.float .f64 4602678819172646912, .int .u8 103, .int .i64 (-1), .int .i64 64] w fun e w' => e = .returned (.string ⟨#[48, 46, 53]⟩) ∧ Below w.heap.size w w' := by
  obtain ⟨i0, hi, hz0, hz1, hz2⟩ := parts_of info5
  have m1 : max (3 : Int) 24 = 24 := by decide
  have HL := hidden hL
  clear hL
  go_enter Tryz.func53, Tryz.ntmps53
  go_wp2_with (refine wpList_make_own _ rfl _ _ 68 rfl w.heap.size 5 i0 (.int .u8 0) 1 Tryz.underlying68 hi hz0 hz1 .i64 .i64 24 24 rfl rfl rfl (by rw [hz2]; decide) (by decide) (Nat.le_refl _) ?_)
  intro w1 hown hg
  have HB1 := hidden (show Below w.heap.size w w1 from (Below.refl _ _).grown hg (Nat.le_refl _) (fun k hk => by cases hk))
  have c1 := ftoa_ex w.heap.size _ w1 (HL.out.below HB1.out) hown HB1.out.size
  clear hown hg hi hz0 hz1 hz2
  go_wp2_with fail
  refine c1.mono ?_
  rintro e w2 ⟨v', rfl, ho2, hb2⟩
  have hs := str_own (l := [48, 46, 53]) ho2 (by decide)
  have HB2 := hidden (HB1.out.trans hb2)
  clear ho2 hb2 c1
  go_wp2
  go_ret
  exact ⟨rfl, HB2.out⟩
set_option maxRecDepth 20000 in
theorem sformat_ex (w : World) (hL : Lay w) :
    Calls Tryz.prog 42 #[.float .f64 4602678819172646912, .int .u8 103, .int .i64 (-1), .int .i64 64] w fun e w' => e = .returned (.string ⟨#[48, 46, 53]⟩) ∧ Below w.heap.size w w' := by
  have c1 := format_ex w hL
  clear hL
  go_enter Tryz.func42, Tryz.ntmps42
  go_wp2_with fail
  refine c1.mono ?_
  rintro e w2 ⟨rfl, hb⟩
  have HB := hidden hb
  clear hb c1
  go_wp2
  go_ret
  exact ⟨rfl, HB.out⟩

set_option maxRecDepth 20000 in
theorem isinf_ex1 (w : World) : Calls Tryz.prog 41 #[.float .f64 4602678819172646912, .int .i64 1] w fun e w' => e = .returned (.bool false) ∧ w' = w := by
  have h : FloatKind.f64.format.order 4602678819172646912 9218868437227405311 = some .lt := by decide +kernel
  go_enter Tryz.func41, Tryz.ntmps41
  go_wp2
  go_ret
  exact ⟨rfl, rfl⟩
/-- The sign, turned. -/
def negF (a : Nat) : Nat := a ^^^ 9223372036854775808
theorem run_neg (a : Nat) (w : World) : (Op.unary .neg (.float .f64 a)).run Tryz.prog w = .ok (.float .f64 (negF a)) w := rfl
set_option maxRecDepth 20000 in
theorem isinf_ex2 (w : World) : Calls Tryz.prog 41 #[.float .f64 4602678819172646912, .int .i64 (-1)] w fun e w' => e = .returned (.bool false) ∧ w' = w := by
  have h0 := run_neg 4602678819172646912 w
  rw [show negF 4602678819172646912 = 13826050856027422720 by decide +kernel] at h0
  have h : FloatKind.f64.format.order 13826050856027422720 9218868437227405311 = some .lt := by decide +kernel
  go_enter Tryz.func41, Tryz.ntmps41
  go_wp2
  go_ret
  exact ⟨rfl, rfl⟩
theorem ex_nan : nanW 4602678819172646912 = false := by decide +kernel
set_option maxRecDepth 20000 in
theorem show_ex (w : World) (hL : Lay w) :
    Calls Tryz.prog 22 #[.float .f64 4602678819172646912] w fun e w' => e = .returned (.string ⟨#[48, 46, 53]⟩) ∧ Below w.heap.size w w' := by
  have c0 := isnan_any 4602678819172646912 w
  rw [ex_nan] at c0
  have c1 := isinf_ex1 w
  have c2 := isinf_ex2 w
  have c3 := sformat_ex w hL
  clear hL
  go_enter Tryz.func22, Tryz.ntmps22
  go_wp2_with fail
  refine c0.mono ?_
  rintro e w2 ⟨rfl, rfl⟩
  go_wp2_with fail
  refine c1.mono ?_
  rintro e w2 ⟨rfl, rfl⟩
  go_wp2_with fail
  refine c2.mono ?_
  rintro e w2 ⟨rfl, rfl⟩
  go_wp2_with fail
  refine c3.mono ?_
  rintro e w2 ⟨rfl, hb⟩
  have HB := hidden hb
  clear hb c3
  go_wp2
  go_ret
  exact ⟨rfl, HB.out⟩
end Go.Proofs.PlatenFigure
