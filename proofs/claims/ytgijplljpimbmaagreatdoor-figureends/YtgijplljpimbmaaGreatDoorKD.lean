/- A scope in which the run jumps forward, to several labels; floatBits' two loops, as functions. -/
import Derived.Test.YtgijplljpimbmaaGreatDoorFgDi
import Derived.ScopeJumps
namespace Go.Proofs.PlatenFigure
open Go.RowKit
set_option linter.unusedVariables false

/-- As Q; by a goto to l: J l. -/
def fwd (J : Nat → Act → World → Prop) (Q : Exit → Act → World → Prop) : Exit → Act → World → Prop
  | .goto l, a, w => J l a w
  | e, a, w => Q e a w
theorem wp_scope_fwd {P : Program} {a : Act} {w : World} {Q : Exit → Act → World → Prop} {c : Code} (J : Nat → Act → World → Prop) (μ : Nat → Nat)
    (first : c.wp P (fwd J Q) a w)
    (pass : ∀ l a w, J l a w → ∃ rest, findLabel c l = some rest ∧ rest.wp P (fwd (fun l' a' w' => J l' a' w' ∧ μ l' < μ l) Q) a w) : (Code.scope c).wp P Q a w := by
  intro b k cs
  have hg : ∀ l rest, findLabel c l = some rest → gotoIn l (.inScope c :: k) = some (.code rest :: .inScope c :: k) := by
    intro l rest hf
    simp [gotoIn, hf]
  have key : ∀ n l a w, μ l = n → J l a w → ∃ rest, findLabel c l = some rest ∧ ∃ e a' w', Q e a' w' ∧ Arrives P (lone (b.at a (.code rest :: .inScope c :: k)) cs w) b k cs e a' w' := by
    intro n
    induction n using Nat.strongRecOn with
    | _ n ih =>
      intro l a w hn hJ
      obtain ⟨rest, hf, hp⟩ := pass l a w hJ
      refine ⟨rest, hf, ?_⟩
      obtain ⟨e, a₁, w₁, hq, harr⟩ := hp b (.inScope c :: k) cs
      cases e with
      | normal => exact ⟨.normal, a₁, w₁, hq, Steps.trans harr (.one step_inScope)⟩
      | exit id => exact ⟨.exit id, a₁, w₁, hq, fun k' hk => harr k' (by simp [exitTo, hk])⟩
      | goto l' =>
        obtain ⟨hJ', hlt⟩ := hq
        obtain ⟨rest', hf', e₂, a₂, w₂, hq₂, harr₂⟩ := ih _ (by omega) l' a₁ w₁ rfl hJ'
        exact ⟨e₂, a₂, w₂, hq₂, .of_steps (harr _ (hg l' rest' hf')) harr₂⟩
      | ret => exact ⟨_, a₁, w₁, hq, harr⟩
      | panic ch => exact ⟨_, a₁, w₁, hq, harr⟩
      | outgrown => exact ⟨_, a₁, w₁, hq, harr⟩
  obtain ⟨e, a₁, w₁, hq, harr⟩ := first b (.inScope c :: k) cs
  cases e with
  | normal => exact ⟨.normal, a₁, w₁, hq, .head step_scope (Steps.trans harr (.one step_inScope))⟩
  | exit id => exact ⟨.exit id, a₁, w₁, hq, fun k' hk => .head step_scope (harr k' (by simp [exitTo, hk]))⟩
  | goto l' =>
    obtain ⟨rest', hf', e₂, a₂, w₂, hq₂, harr₂⟩ := key _ l' a₁ w₁ rfl hq
    exact ⟨e₂, a₂, w₂, hq₂, .of_steps (.head step_scope (harr _ (hg l' rest' hf'))) harr₂⟩
  | ret => exact ⟨_, a₁, w₁, hq, .of_steps (.one step_scope) harr⟩
  | panic ch => exact ⟨_, a₁, w₁, hq, .of_steps (.one step_scope) harr⟩
  | outgrown => exact ⟨_, a₁, w₁, hq, .of_steps (.one step_scope) harr⟩

/-- How far one step of floatBits shifts. -/
def pw (n : Nat) : Nat := if 9 ≤ n then 27 else tp.getD n 0
theorem pw_le (n : Nat) : pw n ≤ 27 := by
  unfold pw
  split
  · decide
  · rename_i q
    have : ∀ m, m < 9 → tp.getD m 0 ≤ 27 := by decide
    exact this n (by omega)
theorem pw_one (n : Nat) : 1 ≤ pw n := by
  unfold pw
  split
  · decide
  · rename_i q
    have : ∀ m, m < 9 → 1 ≤ tp.getD m 0 := by decide
    exact this n (by omega)
theorem pw_three (n : Nat) (h : 1 ≤ n) : 3 ≤ pw n := by
  unfold pw
  split
  · decide
  · rename_i q
    have : ∀ m, m < 9 → 1 ≤ m → 3 ≤ tp.getD m 0 := by decide
    exact this n (by omega) h
/-- The first loop, while the point stands behind the digits' start. -/
noncomputable def lpA : Nat → Dst → Int → Dst × Int
  | 0, s, e => (s, e)
  | f + 1, s, e => if 0 < s.dp then lpA f (rsS (pw s.dp.toNat) s) (e + pw s.dp.toNat) else (s, e)
def lowB (s : Dst) : Prop := s.dp < 0 ∨ (s.dp = 0 ∧ s.g 0 < 53)
instance (s : Dst) : Decidable (lowB s) := by unfold lowB; infer_instance
/-- The second loop, while the number is less than a half. -/
def lpB : Nat → Dst → Int → Dst × Int
  | 0, s, e => (s, e)
  | f + 1, s, e => if lowB s then lpB f (lsS (pw (-s.dp).toNat) s) (e - pw (-s.dp).toNat) else (s, e)
theorem lpA_end (s : Dst) (e : Int) (h : ¬ 0 < s.dp) : ∀ f, lpA f s e = (s, e)
  | 0 => rfl
  | f + 1 => by rw [lpA, if_neg h]
theorem lpB_end (s : Dst) (e : Int) (h : ¬ lowB s) : ∀ f, lpB f s e = (s, e)
  | 0 => rfl
  | f + 1 => by rw [lpB, if_neg h]
theorem mA_pos {s : Dst} (h : 0 < s.dp) : 0 < mA s := by
  unfold mA
  split <;> omega
theorem mB_pos {s : Dst} (hs : OkS s) (h : lowB s) : 0 < mB s := by
  have := hs.first
  unfold mB
  rcases h with h | h <;> omega
/-- Where the first loop stands: what is left of it, and how far the exponent may be. -/
structure InA (s0 : Dst) (R : Dst × Int) (t : Dst) (e : Int) : Prop where
  ok : OkS t
  lo : -400 ≤ t.dp
  hi : t.dp ≤ 320
  e0 : 0 ≤ e
  e1 : e ≤ 27 * (700 - mA t)
  run : ∃ f : Nat, mA t ≤ f ∧ lpA f t e = R
theorem InA.start {s : Dst} (h : OkS s) (h1 : -330 ≤ s.dp) (h2 : s.dp ≤ 310) : InA s (lpA 700 s 0) s 0 := by
  have hm : mA s ≤ 700 := by unfold mA; split <;> omega
  exact ⟨h, by omega, by omega, by omega, by omega, 700, hm, rfl⟩
end Go.Proofs.PlatenFigure

/- floatBits' two loops: their steps. -/
namespace Go.Proofs.PlatenFigure
open Go.RowKit
set_option linter.unusedVariables false
set_option maxRecDepth 20000

theorem InA.step {s0 : Dst} {R : Dst × Int} {t : Dst} {e : Int} (h : InA s0 R t e) (hp : 0 < t.dp) : InA s0 R (rsS (pw t.dp.toNat) t) (e + pw t.dp.toNat) ∧ mA (rsS (pw t.dp.toNat) t) < mA t := by
  have h27 := pw_le t.dp.toNat
  have h3 := pw_three t.dp.toNat (by omega)
  have hd := rsS_dp h.ok (k := pw t.dp.toNat) (by omega)
  have hl := rsS_less h.ok (k := pw t.dp.toNat) (by omega) h3
  have he0 := h.e0
  have he1 := h.e1
  have hhi := h.hi
  obtain ⟨f, hf, hr⟩ := h.run
  have hmp := mA_pos hp
  obtain ⟨f', rfl⟩ : ∃ f', f = f' + 1 := ⟨f - 1, by omega⟩
  rw [lpA, if_pos hp] at hr
  exact ⟨⟨rsS_ok h.ok (by omega), by omega, by omega, by omega, by omega, f', by omega, hr⟩, hl⟩
theorem InA.done {s0 : Dst} {R : Dst × Int} {t : Dst} {e : Int} (h : InA s0 R t e) (hp : ¬ 0 < t.dp) : (t, e) = R := by
  obtain ⟨f, hf, hr⟩ := h.run
  rw [lpA_end t e hp] at hr
  exact hr
structure InB (R : Dst × Int) (t : Dst) (e : Int) : Prop where
  ok : OkS t
  lo : -400 ≤ t.dp
  hi : t.dp ≤ 400
  e0 : e ≤ 50000
  e1 : -27 * (5000 - mB t) ≤ e
  run : ∃ f : Nat, mB t ≤ f ∧ lpB f t e = R
theorem InB.start {s : Dst} {e : Int} (h : OkS s) (h1 : -400 ≤ s.dp) (h2 : s.dp ≤ 0) (h3 : 0 ≤ e) (h4 : e ≤ 50000) : InB (lpB 5000 s e) s e := by
  have hf := h.first
  have hm : mB s ≤ 5000 := by unfold mB; omega
  exact ⟨h, by omega, by omega, by omega, by omega, 5000, hm, rfl⟩
theorem InB.step {R : Dst × Int} {t : Dst} {e : Int} (h : InB R t e) (hp : lowB t) : InB R (lsS (pw (-t.dp).toNat) t) (e - pw (-t.dp).toNat) ∧ mB (lsS (pw (-t.dp).toNat) t) < mB t := by
  have h27 := pw_le (-t.dp).toNat
  have h1 := pw_one (-t.dp).toNat
  have hd := lsS_dp (s := t) h1 (by omega : pw (-t.dp).toNat ≤ 60)
  have hl := lsS_less h.ok h1 (by omega : pw (-t.dp).toNat ≤ 60)
  have he0 := h.e0
  have he1 := h.e1
  have hlo := h.lo
  have hdp : t.dp ≤ 0 := by rcases hp with q | q <;> omega
  obtain ⟨f, hf, hr⟩ := h.run
  have hmp := mB_pos h.ok hp
  obtain ⟨f', rfl⟩ : ∃ f', f = f' + 1 := ⟨f - 1, by omega⟩
  rw [lpB, if_pos hp] at hr
  exact ⟨⟨lsS_ok h.ok h1 (by omega), by omega, by omega, by omega, by omega, f', by omega, hr⟩, hl⟩
theorem InB.done {R : Dst × Int} {t : Dst} {e : Int} (h : InB R t e) (hp : ¬ lowB t) : (t, e) = R := by
  obtain ⟨f, hf, hr⟩ := h.run
  rw [lpB_end t e hp] at hr
  exact hr
theorem mB_low (t : Dst) (h : OkS t) (hd : t.dp ≤ 400) : -4000 ≤ mB t := by
  have := h.first
  unfold mB
  omega
theorem shR_dp2 {n : Nat} {s : Dst} (h : OkS s) : (shR n s).dp ≤ s.dp ∧ s.dp - 20 * (((n - 1) / 60 : Nat) : Int) - 20 ≤ (shR n s).dp := by
  have h1 := itR_dp ((n - 1) / 60) s h
  have h2 := rsS_dp (k := n - 60 * ((n - 1) / 60)) (itR_ok ((n - 1) / 60) s h) (by omega)
  show (rsS (n - 60 * ((n - 1) / 60)) (itR ((n - 1) / 60) s)).dp ≤ _ ∧ _ ≤ (rsS (n - 60 * ((n - 1) / 60)) (itR ((n - 1) / 60) s)).dp
  omega
end Go.Proofs.PlatenFigure
