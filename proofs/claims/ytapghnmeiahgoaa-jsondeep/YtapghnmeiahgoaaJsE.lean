/- What quoted of the reader comes to. -/
import Derived.Test.YtapghnmeiahgoaaJsD
namespace Go.Proofs.PlatenJson
open Go Go.RowKit
set_option linter.unusedVariables false
set_option maxRecDepth 100000
variable {B R n : Nat} {w0 : World} {v : Value} {f : Nat → Nat} {w : World} {i d : Nat} {T : List Tk}

/-- Something is passed, with the blanks behind it, and the machine stands there, too; or it can't be. -/
def Done (B R n : Nat) (w0 : World) (v : Value) (f : Nat → Nat) (o : Res) (d i st : Nat) (S : List Nat) (e : Ending) (w' : World) : Prop :=
  (e = .returned (.tuple #[]) ∧ ∃ j T, i < j ∧ (j < n → isB (f j) = false) ∧ Rd B R n w0 v f w' j d T ∧ Cv f n o st S T false j) ∨
  (∃ x j : Nat, e = Boom x ∧ Rx B R n w0 v f w' j ∧ o = ([], j, x))

set_option maxHeartbeats 2000000 in
theorem quoted_any {o : Res} {S : List Nat} {nm : Bool} {st : Nat} (hst : Hid ((if nm then 4 else 5) = st)) (h : Rd B R n w0 v f w i d T) (hq : i < n → f i = 34 → Cur f n o 6 S T nm i (i + 1)) (hno : (i < n → f i ≠ 34) → o = ([], i, 5)) :
    Calls Try.prog 24 #[.pointer (some ⟨R, 0, none⟩)] w (Done B R n w0 v f o d i st S) := by
  have Hl := hidden h.len
  have Hn := hidden h.hn
  have Hi := hidden h.hi
  cases hs : see f n i ⟨#[34]⟩ with
  | false =>
    have cn := need_no h _ hs
    rw [see_1 h] at hs
    have HB : Hid (o = ([], i, 5)) := hno (fun q => by simpa [q] using hs)
    obtain ⟨tv, h⟩ := h
    have c1 := h.c1
    clear h hs hq hno
    go_enter Try.func24, Try.ntmps24
    go_step3
    go_wp2_with fail
    refine cn.mono ?_
    rintro e w1 ⟨rfl, h1⟩
    have H1 := hidden h1
    clear h1 cn c1
    go_wp2_with fail
    exact ⟨rfl, Or.inr ⟨5, i, rfl, H1.out.x, HB.out⟩⟩
  | true =>
    have cn := need_yes h _ hs
    rw [see_1 h] at hs
    simp at hs
    have HM := hidden (hq hs.1 hs.2)
    obtain ⟨tv, h⟩ := h
    have c1 := h.c1
    clear h hs hq hno
    go_enter Try.func24, Try.ntmps24
    go_step3
    go_wp2_with fail
    refine cn.mono ?_
    rintro e w1 ⟨rfl, h1⟩
    have H1 := hidden h1
    clear h1 cn c1
    go_wp2_with fail
    go_step3
    go_wp2_with fail
    go_loopw [3] (fun c wr => ∃ j, i < j ∧ Rd B R n w0 v f wr j d T ∧ Cur f n o 6 S T nm i j) (fun _ wr => n - atOf R wr)
    case atStart => exact ⟨i + 1, Nat.lt_succ_self _, H1.out, HM.out⟩
    case round =>
      obtain ⟨j, hij, hr, hm⟩ := hrel
      have Hat := hidden hr.at
      have HMj := hidden hm
      have ca := ahead_any hr
      have Hjn := hidden hr.hi
      have hjb : j ≤ 100000 := by have := hr.hi; have := Hn.out; omega
      have hfj : ahd f n j < 256 := by have := hr.hf j; unfold ahd; split <;> omega
      have Hah : Hid (ahd f n j = if j = n then 0 else f j) := rfl
      clear hr hm HM H1
      generalize ahd f n j = c at *
      by_cases q1 : c = 34
      · have hz : ((c : Int) == 34) = true := by simp; omega
        have hjn : j < n := by have := Hjn.out; have := Hah.out; rcases Nat.lt_or_ge j n with h | h; exact h; rw [if_pos (by omega)] at this; omega
        have hfc : f j = 34 := by have := Hah.out; rw [if_neg (by omega)] at this; omega
        have HC := hidden (t_close HMj.out hjn hfc)
        clear HMj Hah
        go_wp2_with fail
        refine ca.mono ?_
        rintro e w2 ⟨rfl, h2⟩
        have cn := need_yes h2 ⟨#[34]⟩ (by rw [see_1 h2]; simp [hjn, hfc])
        clear ca h2 hfc hjn
        go_wp2_with fail
        refine cn.mono ?_
        rintro e w3 ⟨rfl, h3⟩
        have ct := token_any h3 5 i (by decide) (by omega) (by have := Hl.out; omega)
        clear cn h3
        go_wp2_with fail
        refine ct.mono ?_
        rintro e w4 ⟨rfl, j4, hk4, h4⟩
        have HK4 := hidden hk4
        have H4 := hidden h4
        clear ct hk4 h4
        go_wp2_with fail
        go_end0
        refine Or.inl ⟨rfl, j4, _, ?_, HK4.out.2.2.2, H4.out, ?_⟩
        · have := HK4.out.1; omega
        · rw [← hst.out]
          exact b_skip (by split <;> decide) HC.out HK4.out
      · have hz : ((c : Int) == 34) = false := by simp; omega
        by_cases q2 : c = 92
        · have hz2 : ((c : Int) == 92) = true := by simp; omega
          have hjn : j < n := by have := Hjn.out; have := Hah.out; rcases Nat.lt_or_ge j n with h | h; exact h; rw [if_pos (by omega)] at this; omega
          have hfc : f j = 92 := by have := Hah.out; rw [if_neg (by omega)] at this; omega
          have Hjn2 := hidden hjn
          have Hfc := hidden hfc
          clear Hah hjn hfc
          go_wp2_with fail
          refine ca.mono ?_
          rintro e w2 ⟨rfl, h2⟩
          have ce := escape_any h2 Hjn2.out Hfc.out HMj.out
          clear ca h2 HMj
          go_wp2_with fail
          refine ce.mono ?_
          rintro e w3 hE
          rcases hE with ⟨rfl, j3, hj3, h3, hm3⟩ | ⟨rfl, j3, h3, ho⟩
          · have H3 := hidden h3
            have HM3 := hidden hm3
            clear ce h3 hm3
            go_wp2_with fail
            go_roundw
            case rel => exact ⟨j3, by omega, H3.out, HM3.out⟩
            case measure => rw [H3.out.at, Hat.out]; have := Hjn2.out; omega
          · have H3 := hidden h3
            have HO := hidden ho
            clear ce h3 ho
            go_wp2_with fail
            exact ⟨rfl, Or.inr ⟨5, j3, rfl, H3.out.x, HO.out⟩⟩
        · have hz2 : ((c : Int) == 92) = false := by simp; omega
          by_cases q3 : c < 32
          · have hz3 : (c : Int) < 32 := by omega
            have HO : Hid (o = ([], j, 5)) := by
              rcases Nat.lt_or_ge j n with h | h
              · refine t_low HMj.out h ?_
                have := Hah.out; rw [if_neg (by omega)] at this; omega
              · have := Hjn.out
                obtain rfl : j = n := by omega
                exact n_bad_end HMj.out rfl (by decide)
            clear HMj Hah
            go_wp2_with fail
            refine ca.mono ?_
            rintro e w2 ⟨rfl, h2⟩
            have H2 := hidden h2
            clear ca h2
            go_wp2_with fail
            exact ⟨rfl, Or.inr ⟨5, j, rfl, H2.out.x, HO.out⟩⟩
          · have hz3 : ¬ ((c : Int) < 32) := by omega
            have hjn : j < n := by have := Hjn.out; have := Hah.out; rcases Nat.lt_or_ge j n with h | h; exact h; rw [if_pos (by omega)] at this; omega
            have hfc : f j = c := by have := Hah.out; rw [if_neg (by omega)] at this; omega
            have HM2 := hidden (t_plain HMj.out hjn (by omega) (by omega) (by omega))
            have Hjn2 := hidden hjn
            clear Hah hjn hfc HMj
            go_wp2_with fail
            refine ca.mono ?_
            rintro e w2 ⟨rfl, tv2, h2⟩
            have c12 := h2.c1
            have fr2 := h2.free 1
            have H2 : Hid (RS B R n w0 v f (w2.setCell ⟨R, 1, none⟩ (.int .i64 ((j : Int) + 1))) tv2 (j + 1) d T) := by
              have := h2.at' (i' := j + 1) Hjn2.out (Nat.le_succ _)
              simpa [Hid] using this
            clear ca h2
            go_wp2_with fail
            go_roundw
            case rel => exact ⟨j + 1, by omega, ⟨tv2, H2.out⟩, HM2.out⟩
            case measure => rw [Rd.at ⟨tv2, H2.out⟩, Hat.out]; have := Hjn2.out; omega
end Go.Proofs.PlatenJson
