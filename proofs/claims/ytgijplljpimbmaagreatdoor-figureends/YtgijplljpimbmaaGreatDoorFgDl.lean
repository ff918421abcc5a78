/- What strconv's floatBits comes to. -/
import Derived.Test.YtgijplljpimbmaaGreatDoorKD
namespace Go.Proofs.PlatenFigure
open Go.RowKit
set_option linter.unusedVariables false
set_option maxRecDepth 20000

/-- As Q; by a goto to a label of c: what stands there runs on, n times at most. -/
def fwdc (P : Program) (c : Code) (Q : Exit → Act → World → Prop) : Nat → Exit → Act → World → Prop
  | 0, .goto _, _, _ => False
  | n + 1, .goto l, a, w => ∃ rest, findLabel c l = some rest ∧ rest.wp P (fwdc P c Q n) a w
  | _, .normal, a, w => Q .normal a w
  | _, .exit i, a, w => Q (.exit i) a w
  | _, .ret, a, w => Q .ret a w
  | _, .panic ch, a, w => Q (.panic ch) a w
  | _, .outgrown, a, w => Q .outgrown a w
theorem fwdc_ret (P : Program) (c : Code) (Q : Exit → Act → World → Prop) : ∀ n, fwdc P c Q n .ret = Q .ret
  | 0 => rfl
  | _ + 1 => rfl
theorem wp_scope_fwdc {P : Program} {a : Act} {w : World} {Q : Exit → Act → World → Prop} {c : Code} (n : Nat) (first : c.wp P (fwdc P c Q n) a w) : (Code.scope c).wp P Q a w := by
  intro b k cs
  have hg : ∀ l rest, findLabel c l = some rest → gotoIn l (.inScope c :: k) = some (.code rest :: .inScope c :: k) := by
    intro l rest hf
    simp [gotoIn, hf]
  have key : ∀ n l a w, fwdc P c Q n (.goto l) a w → ∃ rest, findLabel c l = some rest ∧ ∃ e a' w', Q e a' w' ∧ Arrives P (lone (b.at a (.code rest :: .inScope c :: k)) cs w) b k cs e a' w' := by
    intro n
    induction n with
    | zero => intro l a w h; exact h.elim
    | succ n ih =>
      intro l a w h
      obtain ⟨rest, hf, hp⟩ := h
      refine ⟨rest, hf, ?_⟩
      obtain ⟨e, a₁, w₁, hq, harr⟩ := hp b (.inScope c :: k) cs
      cases e with
      | goto l' =>
        obtain ⟨rest', hf', e₂, a₂, w₂, hq₂, harr₂⟩ := ih l' a₁ w₁ hq
        exact ⟨e₂, a₂, w₂, hq₂, .of_steps (harr _ (hg l' rest' hf')) harr₂⟩
      | normal => cases n <;> exact ⟨.normal, a₁, w₁, hq, Steps.trans harr (.one step_inScope)⟩
      | exit id => cases n <;> exact ⟨.exit id, a₁, w₁, hq, fun k' hk => harr k' (by simp [exitTo, hk])⟩
      | ret => cases n <;> exact ⟨_, a₁, w₁, hq, harr⟩
      | panic ch => cases n <;> exact ⟨_, a₁, w₁, hq, harr⟩
      | outgrown => cases n <;> exact ⟨_, a₁, w₁, hq, harr⟩
  obtain ⟨e, a₁, w₁, hq, harr⟩ := first b (.inScope c :: k) cs
  cases e with
  | goto l' =>
    obtain ⟨rest', hf', e₂, a₂, w₂, hq₂, harr₂⟩ := key n l' a₁ w₁ hq
    exact ⟨e₂, a₂, w₂, hq₂, .of_steps (.head step_scope (harr _ (hg l' rest' hf'))) harr₂⟩
  | normal => cases n <;> exact ⟨.normal, a₁, w₁, hq, .head step_scope (Steps.trans harr (.one step_inScope))⟩
  | exit id => cases n <;> exact ⟨.exit id, a₁, w₁, hq, fun k' hk => .head step_scope (harr k' (by simp [exitTo, hk]))⟩
  | ret => cases n <;> exact ⟨_, a₁, w₁, hq, .of_steps (.one step_scope) harr⟩
  | panic ch => cases n <;> exact ⟨_, a₁, w₁, hq, .of_steps (.one step_scope) harr⟩
  | outgrown => cases n <;> exact ⟨_, a₁, w₁, hq, .of_steps (.one step_scope) harr⟩

/-- The word's bits, with their sign; x is the exponent's field. -/
def foW (m : Nat) (x : Int) (neg : Bool) : Int :=
  if neg = true then bits .or .u64 (bits .or .u64 (bits .and .u64 (m : Int) 4503599627370495) (IntKind.u64.wrap (IntKind.u64.wrap (bits .and .i64 x 2047) * 4503599627370496))) 9223372036854775808
  else bits .or .u64 (bits .and .u64 (m : Int) 4503599627370495) (IntKind.u64.wrap (IntKind.u64.wrap (bits .and .i64 x 2047) * 4503599627370496))
theorem bits_range (op : BinOp) (a b : Int) : 0 ≤ bits op .u64 a b ∧ bits op .u64 a b < 18446744073709551616 := by
  have h : ∀ x : Int, 0 ≤ IntKind.u64.wrap x ∧ IntKind.u64.wrap x < 18446744073709551616 := fun x => by rw [IntKind.wrap_u64]; omega
  unfold bits
  exact h _
theorem foW_range (m : Nat) (x : Int) (neg : Bool) : 0 ≤ foW m x neg ∧ foW m x neg < 18446744073709551616 := by
  unfold foW
  split <;> exact bits_range _ _ _
structure FltI (w : World) : Prop where
  mb : w.cell? ⟨6, 0, none⟩ = some (.int .u64 52)
  eb : w.cell? ⟨6, 1, none⟩ = some (.int .u64 11)
  bias : w.cell? ⟨6, 2, none⟩ = some (.int .i64 (-1023))
set_option maxHeartbeats 2000000 in
theorem bits_zero {B K : Nat} {w0 w : World} {s : Dst} {neg : Bool} (h : DcS B K w0 w s neg) (hf : FltI w) (ok : s.nd = 0) :
    Calls Tryz.prog 96 #[.pointer (some ⟨K, 0, none⟩), .pointer (some ⟨6, 0, none⟩)] w fun e w' => e = .returned (.tuple #[.int .u64 (foW 0 0 neg), .bool false]) ∧ ∃ m, w' = w.drewN m := by
  have hm := hf.mb
  have he := hf.eb
  have hb := hf.bias
  have c0 := h.c0
  have c1 := h.c1
  have c2 := h.c2
  rw [ok] at c0
  have c00 : w.cell? ⟨K, 800, none⟩ = some (.int .i64 0) := c0
  clear h ok c0 hf
  cases neg
  · go_enter Tryz.func96, Tryz.ntmps96
    go_wp2_with fail
    refine wp_scope_fwdc 1 ?_
    go_wp2_with fail
    go_step3
    refine ⟨_, rfl, ?_⟩
    go_wp2_with fail
    repeat (go_quiet (fail); go_wp2_with fail)
    rw [fwdc_ret]
    refine bodyPost_ret (v := .tuple #[.int .u64 (foW 0 0 false), .bool false]) ?_ rfl ⟨rfl, ?_⟩
    · simp [results, Tryz.results96, go_sem, foW]
    · first | exact ⟨_, rfl⟩ | (simp only [drew2]; exact ⟨_, rfl⟩)
  · go_enter Tryz.func96, Tryz.ntmps96
    go_wp2_with fail
    refine wp_scope_fwdc 1 ?_
    go_wp2_with fail
    go_step3
    refine ⟨_, rfl, ?_⟩
    go_wp2_with fail
    repeat (go_quiet (fail); go_wp2_with fail)
    rw [fwdc_ret]
    refine bodyPost_ret (v := .tuple #[.int .u64 (foW 0 0 true), .bool false]) ?_ rfl ⟨rfl, ?_⟩
    · simp [results, Tryz.results96, go_sem, foW]
    · first | exact ⟨_, rfl⟩ | (simp only [drew2]; exact ⟨_, rfl⟩)
set_option maxHeartbeats 2000000 in
theorem bits_small {B K : Nat} {w0 w : World} {s : Dst} {neg : Bool} (h : DcS B K w0 w s neg) (hf : FltI w) (ok : 0 < s.nd) (hd : s.dp < -330) :
    Calls Tryz.prog 96 #[.pointer (some ⟨K, 0, none⟩), .pointer (some ⟨6, 0, none⟩)] w fun e w' => e = .returned (.tuple #[.int .u64 (foW 0 0 neg), .bool false]) ∧ ∃ m, w' = w.drewN m := by
  have hm := hf.mb
  have he := hf.eb
  have hb := hf.bias
  have c0 := h.c0
  have c1 := h.c1
  have c2 := h.c2
  have hz : (((s.nd : Nat) : Int) == 0) = false := by simp only [beq_eq_false_iff_ne, ne_eq]; omega
  have hd2 : ¬ 310 < s.dp := by omega
  clear h ok hf
  generalize s.nd = n at *
  generalize s.dp = p at *
  cases neg
  · go_enter Tryz.func96, Tryz.ntmps96
    go_wp2_with fail
    refine wp_scope_fwdc 1 ?_
    go_wp2_with fail
    go_step3
    refine ⟨_, rfl, ?_⟩
    go_wp2_with fail
    repeat (go_quiet (fail); go_wp2_with fail)
    rw [fwdc_ret]
    refine bodyPost_ret (v := .tuple #[.int .u64 (foW 0 0 false), .bool false]) ?_ rfl ⟨rfl, ?_⟩
    · simp [results, Tryz.results96, go_sem, foW]
    · first | exact ⟨_, rfl⟩ | (simp only [drew2]; exact ⟨_, rfl⟩)
  · go_enter Tryz.func96, Tryz.ntmps96
    go_wp2_with fail
    refine wp_scope_fwdc 1 ?_
    go_wp2_with fail
    go_step3
    refine ⟨_, rfl, ?_⟩
    go_wp2_with fail
    repeat (go_quiet (fail); go_wp2_with fail)
    rw [fwdc_ret]
    refine bodyPost_ret (v := .tuple #[.int .u64 (foW 0 0 true), .bool false]) ?_ rfl ⟨rfl, ?_⟩
    · simp [results, Tryz.results96, go_sem, foW]
    · first | exact ⟨_, rfl⟩ | (simp only [drew2]; exact ⟨_, rfl⟩)
set_option maxHeartbeats 2000000 in
theorem bits_great {B K : Nat} {w0 w : World} {s : Dst} {neg : Bool} (h : DcS B K w0 w s neg) (hf : FltI w) (ok : 0 < s.nd) (hd : 310 < s.dp) :
    Calls Tryz.prog 96 #[.pointer (some ⟨K, 0, none⟩), .pointer (some ⟨6, 0, none⟩)] w fun e w' => e = .returned (.tuple #[.int .u64 (foW 0 2047 neg), .bool true]) ∧ ∃ m, w' = w.drewN m := by
  have hm := hf.mb
  have he := hf.eb
  have hb := hf.bias
  have c0 := h.c0
  have c1 := h.c1
  have c2 := h.c2
  have hz : (((s.nd : Nat) : Int) == 0) = false := by simp only [beq_eq_false_iff_ne, ne_eq]; omega
  clear h ok hf
  generalize s.nd = n at *
  generalize s.dp = p at *
  cases neg
  · go_enter Tryz.func96, Tryz.ntmps96
    go_wp2_with fail
    refine wp_scope_fwdc 1 ?_
    go_wp2_with fail
    go_step3
    refine ⟨_, rfl, ?_⟩
    go_wp2_with fail
    repeat (go_quiet (fail); go_wp2_with fail)
    go_step3
    go_wp2_with fail
    repeat (go_quiet (fail); go_wp2_with fail)
    rw [fwdc_ret]
    refine bodyPost_ret (v := .tuple #[.int .u64 (foW 0 2047 false), .bool true]) ?_ rfl ⟨rfl, ?_⟩
    · simp [results, Tryz.results96, go_sem, foW]
    · first | exact ⟨_, rfl⟩ | (simp only [drew2]; exact ⟨_, rfl⟩)
  · go_enter Tryz.func96, Tryz.ntmps96
    go_wp2_with fail
    refine wp_scope_fwdc 1 ?_
    go_wp2_with fail
    go_step3
    refine ⟨_, rfl, ?_⟩
    go_wp2_with fail
    repeat (go_quiet (fail); go_wp2_with fail)
    go_step3
    go_wp2_with fail
    repeat (go_quiet (fail); go_wp2_with fail)
    rw [fwdc_ret]
    refine bodyPost_ret (v := .tuple #[.int .u64 (foW 0 2047 true), .bool true]) ?_ rfl ⟨rfl, ?_⟩
    · simp [results, Tryz.results96, go_sem, foW]
    · first | exact ⟨_, rfl⟩ | (simp only [drew2]; exact ⟨_, rfl⟩)
end Go.Proofs.PlatenFigure
