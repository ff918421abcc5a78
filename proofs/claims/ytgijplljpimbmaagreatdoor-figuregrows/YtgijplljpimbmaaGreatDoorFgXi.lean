/- What strconv.ParseFloat comes to, where atof64 answers, with or without an error of the range; infinities. -/
import Derived.Test.YtgijplljpimbmaaGreatDoorFgXh
import Derived.Test.YtgijplljpimbmaaGreatDoorFgXg
import Derived.Test.YtgijplljpimbmaaGreatDoorFgXf
namespace Go.Proofs.PlatenFigure
open Go.RowKit
set_option linter.unusedVariables false
set_option linter.unusedSimpArgs false
set_option maxRecDepth 20000

theorem af_of {s : ByteArray} {x : Nat} (h : AFe s x false) : AF s x := h
theorem prefixf_er (s : ByteArray) (x : Nat) (h : AFe s x true) (w : World) (hL : Lay w) :
    Calls Tryz.prog 56 #[.string s, .int .i64 64] w fun e w' => e = .returned (.tuple #[.float .f64 x, .int .i64 s.size, .iface 64 (.int .i64 1)]) ∧ Below w.heap.size w w' := by
  have c1 := h w hL
  rw [show erV true = .iface 64 (.int .i64 1) from rfl] at c1
  clear hL h
  go_enter Tryz.func56, Tryz.ntmps56
  go_wp2_with fail
  refine c1.mono ?_
  rintro e w' ⟨rfl, hb⟩
  have HB := hidden hb
  clear hb
  go_wp2_with fail
  go_ret3
  exact ⟨rfl, HB.out⟩
theorem iparse_er (s : ByteArray) (x : Nat) (h : AFe s x true) (w : World) (hL : Lay w) :
    Calls Tryz.prog 50 #[.string s, .int .i64 64] w fun e w' => e = .returned (.tuple #[.float .f64 x, .iface 64 (.int .i64 1)]) ∧ Below w.heap.size w w' := by
  have c1 := prefixf_er s x h w hL
  clear hL h
  go_enter Tryz.func50, Tryz.ntmps50
  go_wp2_with fail
  refine c1.mono ?_
  rintro e w' ⟨rfl, hb⟩
  have HB := hidden hb
  clear hb
  go_wp2_with fail
  go_ret2
  exact ⟨rfl, HB.out⟩
theorem parse_er (s : ByteArray) (x : Nat) (hs : s.size ≤ 1000) (h : AFe s x true) : PF s x := by
  intro w hL
  have c1 := iparse_er s x h w hL
  obtain ⟨te, pe, he⟩ := hL.tabs.er
  clear hL h
  go_enter Tryz.func39, Tryz.ntmps39
  go_wp2_with fail
  refine c1.mono ?_
  rintro e w' ⟨rfl, hb⟩
  have he' := (hb.cell (World.block_lt_of_cell? _ _ he)).trans he
  have c2 := Tryz.strconv_toError_range ⟨#[80, 97, 114, 115, 101, 70, 108, 111, 97, 116]⟩ s 0 64 _ w' (by omega) he' (Or.inr ⟨te, pe, rfl⟩)
  have HB := hidden hb
  clear hb he' he c1
  go_wp2_with fail
  refine c2.mono ?_
  rintro e w2 ⟨N, rfl, _, _, hb2⟩
  have HB2 := hidden (HB.out.trans (hb2.mono HB.out.size))
  clear hb2 c2
  go_wp2_with fail
  go_ret2
  exact ⟨⟨_, rfl⟩, HB2.out⟩
theorem pf_of (s : ByteArray) (x : Nat) (b : Bool) (hs : s.size ≤ 1000) (h : AFe s x b) : PF s x := by
  cases b with
  | false => exact parse_any s x (af_of h)
  | true => exact parse_er s x hs h

/-! Infinities. -/
theorem inf_pos (w : World) : Calls Tryz.prog 123 #[.int .i64 1] w fun e w' => e = .returned (.float .f64 9218868437227405312) ∧ w' = w := by
  have s0 := sfrom 9218868437227405312 w
  go_enter Tryz.func123, Tryz.ntmps123
  go_wp2_with fail
  go_ret
  exact ⟨rfl, rfl⟩
theorem inf_neg (w : World) : Calls Tryz.prog 123 #[.int .i64 (-1)] w fun e w' => e = .returned (.float .f64 18442240474082181120) ∧ w' = w := by
  have s1 := sfrom 18442240474082181120 w
  go_enter Tryz.func123, Tryz.ntmps123
  go_wp2_with fail
  go_ret
  exact ⟨rfl, rfl⟩
def infP : ByteArray := ⟨#[43, 105, 110, 102]⟩
def infM : ByteArray := ⟨#[45, 105, 110, 102]⟩
/-- special takes all of it. -/
def Sp (s : ByteArray) (x : Nat) : Prop := ∀ w, Calls Tryz.prog 88 #[.string s] w fun e w' => e = .returned (.tuple #[.float .f64 x, .int .i64 s.size, .bool true]) ∧ w' = w
set_option maxHeartbeats 2000000 in
theorem sp_inf : Sp infS 9218868437227405312 := by
  intro w
  have c1 := cpl_inf w
  have c2 := inf_pos w
  have e0 : ((⟨#[105, 110, 102]⟩ : ByteArray)[0]'(by decide)).toNat = 105 := rfl
  unfold infS at *
  go_enter Tryz.func88, Tryz.ntmps88
  go_wp2_with fail
  refine c1.mono ?_
  rintro e w' ⟨rfl, rfl⟩
  go_wp2_with fail
  refine c2.mono ?_
  rintro e w' ⟨rfl, rfl⟩
  go_wp2_with fail
  go_ret3
  exact ⟨rfl, rfl⟩
set_option maxHeartbeats 2000000 in
theorem sp_infP : Sp infP 9218868437227405312 := by
  intro w
  have c1 := cpl_inf w
  have c2 := inf_pos w
  have e0 : ((⟨#[43, 105, 110, 102]⟩ : ByteArray)[0]'(by decide)).toNat = 43 := rfl
  have e1 : ((⟨#[43, 105, 110, 102]⟩ : ByteArray).extract 1 4) = infS := by decide
  unfold infP
  go_enter Tryz.func88, Tryz.ntmps88
  go_wp2_with fail
  refine c1.mono ?_
  rintro e w' ⟨rfl, rfl⟩
  go_wp2_with fail
  refine c2.mono ?_
  rintro e w' ⟨rfl, rfl⟩
  go_wp2_with fail
  go_ret3
  exact ⟨rfl, rfl⟩
set_option maxHeartbeats 2000000 in
theorem sp_infM : Sp infM 18442240474082181120 := by
  intro w
  have c1 := cpl_inf w
  have c2 := inf_neg w
  have e0 : ((⟨#[45, 105, 110, 102]⟩ : ByteArray)[0]'(by decide)).toNat = 45 := rfl
  have e1 : ((⟨#[45, 105, 110, 102]⟩ : ByteArray).extract 1 4) = infS := by decide
  unfold infM
  go_enter Tryz.func88, Tryz.ntmps88
  go_wp2_with fail
  refine c1.mono ?_
  rintro e w' ⟨rfl, rfl⟩
  go_wp2_with fail
  refine c2.mono ?_
  rintro e w' ⟨rfl, rfl⟩
  go_wp2_with fail
  go_ret3
  exact ⟨rfl, rfl⟩
theorem at_sp (s : ByteArray) (x : Nat) (h : Sp s x) : AFe s x false := by
  intro w hL
  have c1 := h w
  clear hL h
  go_enter Tryz.func68, Tryz.ntmps68
  go_wp2_with fail
  refine c1.mono ?_
  rintro e w' ⟨rfl, rfl⟩
  go_wp2_with fail
  go_ret3
  exact ⟨rfl, Below.refl _ _⟩
end Go.Proofs.PlatenFigure
