/- What quote, quoted and atom of the reader come to. -/
import Derived.Test.YtpcfbdnckmfelaaSxC
namespace Go.Proofs.PlatenSexp
open Go Go.RowKit
set_option linter.unusedVariables false
set_option maxRecDepth 100000
variable {B R n : Nat} {w0 : World} {v : Value} {f : Nat → Nat} {w : World} {i d : Nat} {T : List Tk}

/-- Something is passed, with the blanks behind it, and the machine stands there, too; or it can't be. -/
def Done (B R n : Nat) (w0 : World) (v : Value) (f : Nat → Nat) (o : Res) (d i st : Nat) (e : Ending) (w' : World) : Prop :=
  (e = .returned (.tuple #[]) ∧ ∃ j T, i < j ∧ (j < n → isB (f j) = false) ∧ Rd B R n w0 v f w' j d T ∧ Cv f n o st d T j) ∨
  (∃ x j : Nat, e = Boom j x ∧ Rx B R n w0 v f w' j ∧ o = ([], j, x))
theorem aft_ok (d : Nat) : aft d = 0 ∨ aft d = 1 ∨ aft d = 6 := by rcases aft_cases d with ⟨e, _⟩ | ⟨e, _⟩ <;> simp [e]

set_option maxHeartbeats 2000000 in
theorem quote_any {o : Res} {st : Nat} (h : Rd B R n w0 v f w i d T) (hi : i < n) (hc : f i = 39 ∨ f i = 96 ∨ f i = 44) (hst : st = 0 ∨ st = 1) (hm : Cv f n o st d T i) :
    Calls Try.prog 24 #[.pointer (some ⟨R, 0, none⟩)] w (Done B R n w0 v f o d i 0) := by
  have Hl := hidden h.len
  have Hn := hidden h.hn
  have Hi := hidden hi
  obtain ⟨tv, h⟩ := h
  have c1 := h.c1
  have H := hidden h
  cases hs : see f n i ⟨#[39, 96]⟩ with
  | true =>
    have ct := take_yes ⟨tv, h⟩ _ hs
    rw [see_q2 ⟨tv, h⟩] at hs
    simp at hs
    have HM := hidden (q_one hm hst hi hs.2)
    clear h hs hm hst hc hi
    go_enter Try.func24, Try.ntmps24
    go_wp2_with fail
    refine ct.mono ?_
    rintro e w1 ⟨rfl, h1⟩
    have ct := token_any h1 6 i (by decide) (by omega) (by have := Hl.out; omega)
    rw [show i + 1 - i = 1 by omega] at ct
    clear h1
    go_wp2_with fail
    refine ct.mono ?_
    rintro e w4 ⟨rfl, j4, hk4, h4⟩
    have HK4 := hidden hk4
    have H4 := hidden h4
    clear ct hk4 h4
    go_wp2_with fail
    go_end0
    refine Or.inl ⟨rfl, j4, _, ?_, HK4.out.2.2.2, H4.out, ?_⟩
    · have := HK4.out.1; omega
    · exact b_skip (by decide) HM.out HK4.out
  | false =>
    have ct := take_no ⟨tv, h⟩ _ hs
    rw [see_q2 ⟨tv, h⟩] at hs
    have hc44 : f i = 44 := by simp [hi] at hs; omega
    have HM := hidden (comma hm hst hi hc44)
    have Hc := hidden hc44
    clear h hs hm hst hc hi hc44
    go_enter Try.func24, Try.ntmps24
    go_wp2_with fail
    refine ct.mono ?_
    rintro e w1 ⟨rfl, h1⟩
    have cn := need_yes h1 ⟨#[44]⟩ (by rw [see_1 h1]; simp [Hi.out, Hc.out])
    clear h1 ct H
    go_wp2_with fail
    refine cn.mono ?_
    rintro e w2 ⟨rfl, h2⟩
    have Hin := hidden h2.hi
    clear cn
    cases hs : see f n (i + 1) ⟨#[64]⟩ with
    | true =>
      have ct := take_yes h2 _ hs
      rw [see_1 h2] at hs
      simp at hs
      have HQ := hidden (q_at HM.out hs.1 hs.2)
      clear h2 hs HM
      go_wp2_with fail
      refine ct.mono ?_
      rintro e w3 ⟨rfl, h3⟩
      have ct := token_any h3 6 i (by decide) (by omega) (by have := Hl.out; omega)
      clear h3
      go_wp2_with fail
      refine ct.mono ?_
      rintro e w4 ⟨rfl, j4, hk4, h4⟩
      have HK4 := hidden hk4
      have H4 := hidden h4
      clear ct hk4 h4
      go_wp2_with fail
      go_end0
      refine Or.inl ⟨rfl, j4, _, ?_, HK4.out.2.2.2, H4.out, ?_⟩
      · have := HK4.out.1; omega
      · exact b_skip (by decide) HQ.out HK4.out
    | false =>
      have ct := take_no h2 _ hs
      rw [see_1 h2] at hs
      have HQ := hidden (q_no HM.out Hin.out (fun q => by simpa [q] using hs))
      clear h2 hs HM
      go_wp2_with fail
      refine ct.mono ?_
      rintro e w3 ⟨rfl, h3⟩
      have ct := token_any h3 6 i (by decide) (by omega) (by have := Hl.out; omega)
      clear h3
      go_wp2_with fail
      refine ct.mono ?_
      rintro e w4 ⟨rfl, j4, hk4, h4⟩
      have HK4 := hidden hk4
      have H4 := hidden h4
      clear ct hk4 h4
      go_wp2_with fail
      go_end0
      refine Or.inl ⟨rfl, j4, _, ?_, HK4.out.2.2.2, H4.out, ?_⟩
      · have := HK4.out.1; omega
      · exact b_skip (by decide) HQ.out HK4.out

set_option maxHeartbeats 2000000 in
theorem quoted_any {o : Res} {st : Nat} (h : Rd B R n w0 v f w i d T) (hi : i < n) (hc : f i = 34) (hst : st = 0 ∨ st = 1) (hm : Cv f n o st d T i) :
    Calls Try.prog 26 #[.pointer (some ⟨R, 0, none⟩)] w (Done B R n w0 v f o d i (aft d)) := by
  have Hl := hidden h.len
  have Hn := hidden h.hn
  have cn := need_yes h ⟨#[34]⟩ (by rw [see_1 h]; simp [hi, hc])
  have HM := hidden (t_open hm hst hi hc)
  obtain ⟨tv, h⟩ := h
  have c1 := h.c1
  clear h hm hst hc hi
  go_enter Try.func26, Try.ntmps26
  go_wp2_with fail
  refine cn.mono ?_
  rintro e w1 ⟨rfl, h1⟩
  have H1 := hidden h1
  clear h1 cn c1
  go_wp2_with fail
  go_loopw [] (fun wr => ∃ j, i < j ∧ Rd B R n w0 v f wr j d T ∧ Cur f n o 4 d T i j) (fun wr => n - atOf R wr)
  case atStart => exact ⟨i + 1, Nat.lt_succ_self _, H1.out, HM.out⟩
  case round =>
    obtain ⟨j, hij, hr, hm⟩ := hrel
    have Hat := hidden hr.at
    have HMj := hidden hm
    have Hjn := hidden hr.hi
    clear hm HM H1
    cases hs : see f n j ⟨#[34]⟩ with
    | true =>
      have ct := take_yes hr _ hs
      rw [see_1 hr] at hs
      simp at hs
      have HC := hidden (t_close HMj.out hs.1 hs.2)
      clear hr hs HMj
      go_wp2_with fail
      refine ct.mono ?_
      rintro e w3 ⟨rfl, h3⟩
      have ct := token_any h3 5 i (by decide) (by omega) (by have := Hl.out; omega)
      clear h3
      go_wp2_with fail
      refine ct.mono ?_
      rintro e w4 ⟨rfl, j4, hk4, h4⟩
      have HK4 := hidden hk4
      have H4 := hidden h4
      clear ct hk4 h4
      go_wp2_with fail
      go_end0
      refine Or.inl ⟨rfl, j4, _, ?_, HK4.out.2.2.2, H4.out, ?_⟩
      · have := HK4.out.1; omega
      · exact b_skip (aft_ok d) HC.out HK4.out
    | false =>
      have ct := take_no hr _ hs
      rw [see_1 hr] at hs
      have H34 : Hid (j < n → f j ≠ 34) := fun q => by simpa [q] using hs
      clear hr hs
      go_wp2_with fail
      refine ct.mono ?_
      rintro e w3 ⟨rfl, h3⟩
      clear ct
      cases hs : see f n j ⟨#[92]⟩ with
      | true =>
        have ct := take_yes h3 _ hs
        rw [see_1 h3] at hs
        simp at hs
        have HM2 := hidden (t_slash HMj.out hs.1 hs.2)
        have Hjl := hidden hs.1
        clear h3 hs HMj H34
        go_wp2_with fail
        refine ct.mono ?_
        rintro e w4 ⟨rfl, h4⟩
        clear ct
        by_cases hj : j + 1 < n
        · have ck := skip_yes h4 hj
          have HM3 := hidden (t_any HM2.out hj)
          clear h4 hj HM2
          go_wp2_with fail
          refine ck.mono ?_
          rintro e w5 ⟨rfl, h5⟩
          have H5 := hidden h5
          clear ck h5
          go_wp2_with fail
          go_roundw
          case rel => exact ⟨j + 1 + 1, by omega, H5.out, HM3.out⟩
          case measure => rw [H5.out.at, Hat.out]; have := Hjl.out; omega
        · have ck := skip_no h4 hj
          have HO : Hid (o = ([], j + 1, 5)) := by
            have hl := Hjl.out
            obtain hq : j + 1 = n := by omega
            have := HM2.out
            rw [hq] at this ⊢
            exact t_end this (Or.inr rfl)
          clear h4 hj HM2
          go_wp2_with fail
          refine ck.mono ?_
          rintro e w5 ⟨rfl, h5⟩
          have H5 := hidden h5
          clear ck h5
          go_wp2_with fail
          exact ⟨rfl, Or.inr ⟨5, j + 1, rfl, H5.out.x, HO.out⟩⟩
      | false =>
        have ct := take_no h3 _ hs
        rw [see_1 h3] at hs
        have H92 : Hid (j < n → f j ≠ 92) := fun q => by simpa [q] using hs
        clear h3 hs
        go_wp2_with fail
        refine ct.mono ?_
        rintro e w4 ⟨rfl, h4⟩
        clear ct
        by_cases hj : j < n
        · have ck := skip_yes h4 hj
          have HM3 := hidden (t_plain HMj.out hj (H34.out hj) (H92.out hj))
          have Hjl := hidden hj
          clear h4 hj HMj H34 H92
          go_wp2_with fail
          refine ck.mono ?_
          rintro e w5 ⟨rfl, h5⟩
          have H5 := hidden h5
          clear ck h5
          go_wp2_with fail
          go_roundw
          case rel => exact ⟨j + 1, by omega, H5.out, HM3.out⟩
          case measure => rw [H5.out.at, Hat.out]; have := Hjl.out; omega
        · have ck := skip_no h4 hj
          have HO : Hid (o = ([], j, 5)) := by
            have hl := Hjn.out
            obtain hq : j = n := by omega
            have := HMj.out
            rw [hq] at this ⊢
            exact t_end this (Or.inl rfl)
          clear h4 hj HMj H34 H92
          go_wp2_with fail
          refine ck.mono ?_
          rintro e w5 ⟨rfl, h5⟩
          have H5 := hidden h5
          clear ck h5
          go_wp2_with fail
          exact ⟨rfl, Or.inr ⟨5, j, rfl, H5.out.x, HO.out⟩⟩

set_option maxHeartbeats 2000000 in
theorem atom_no {o : Res} {st : Nat} (h : Rd B R n w0 v f w i d T) (hst : st = 0 ∨ st = 1) (hm : Cv f n o st d T i) (hb : i < n → isB (f i) = false ∧ (st = 1 → f i ≠ 41))
    (hq : i < n → f i ≠ 39 ∧ f i ≠ 96 ∧ f i ≠ 44 ∧ f i ≠ 40 ∧ f i ≠ 34) (hn : see f n i ⟨#[64]⟩ = true ∨ see f n i ⟨#[64]⟩ = false ∧ wth f n i = false) :
    Calls Try.prog 27 #[.pointer (some ⟨R, 0, none⟩)] w (Done B R n w0 v f o d i (aft d)) := by
  have HO : Hid (o = ([], i, 5)) := by
    by_cases hi : i < n
    · obtain ⟨a1, a2, a3, a4, a5⟩ := hq hi
      refine x_bad hm hst hi (hb hi).1 ?_ (hb hi).2
      simp only [isX, Bool.or_eq_false_iff, decide_eq_false_iff_not, Bool.and_eq_false_iff, Bool.not_eq_false', decide_eq_true_eq]
      refine ⟨⟨⟨⟨⟨a1, a2⟩, a3⟩, a4⟩, a5⟩, ?_⟩
      rcases hn with e | ⟨e, e2⟩
      · rw [see_1 h] at e
        simp at e
        exact Or.inr e.2
      · simp [wth, hi] at e2
        exact Or.inl e2
    · have := h.hi
      obtain rfl : i = n := by omega
      exact x_end hm hst
  obtain ⟨tv, h⟩ := h
  have c1 := h.c1
  have cs := sees_any ⟨tv, h⟩ ⟨#[64]⟩
  clear h hm hb hq
  rcases hn with hs | ⟨hs, hw⟩
  · rw [hs] at cs
    clear hs
    go_enter Try.func27, Try.ntmps27
    go_wp2_with fail
    refine cs.mono ?_
    rintro e w1 ⟨rfl, h1⟩
    have cf := fail_any h1 5
    clear cs h1
    go_wp2_with fail
    refine cf.mono ?_
    rintro e w2 ⟨rfl, h2⟩
    have H2 := hidden h2
    clear cf h2
    go_wp2_with fail
    exact ⟨rfl, Or.inr ⟨5, i, rfl, H2.out.x, HO.out⟩⟩
  · rw [hs] at cs
    have HW := hidden hw
    clear hs hw
    go_enter Try.func27, Try.ntmps27
    go_wp2_with fail
    refine cs.mono ?_
    rintro e w1 ⟨rfl, h1⟩
    have ci := within_any h1
    rw [HW.out] at ci
    clear cs h1
    go_wp2_with fail
    refine ci.mono ?_
    rintro e w2 ⟨rfl, h2⟩
    have cf := fail_any h2 5
    clear ci h2
    go_wp2_with fail
    refine cf.mono ?_
    rintro e w2 ⟨rfl, h2⟩
    have H2 := hidden h2
    clear cf h2
    go_wp2_with fail
    exact ⟨rfl, Or.inr ⟨5, i, rfl, H2.out.x, HO.out⟩⟩

set_option maxHeartbeats 2000000 in
theorem atom_yes {o : Res} {st : Nat} (h : Rd B R n w0 v f w i d T) (hst : st = 0 ∨ st = 1) (hm : Cv f n o st d T i) (hs : see f n i ⟨#[64]⟩ = false) (hw : wth f n i = true) :
    Calls Try.prog 27 #[.pointer (some ⟨R, 0, none⟩)] w (Done B R n w0 v f o d i (aft d)) := by
  have Hl := hidden h.len
  have Hn := hidden h.hn
  have h64 : i < n ∧ isP (f i) = true ∧ f i ≠ 64 := by
    simp [wth] at hw
    rw [see_1 h] at hs
    simp [hw.1] at hs
    exact ⟨hw.1, hw.2, hs⟩
  have HM := hidden (a_open hm hst h64.1 h64.2.1 h64.2.2)
  have HW := hidden hw
  have cs := sees_any h ⟨#[64]⟩
  rw [hs] at cs
  obtain ⟨tv, h⟩ := h
  have c1 := h.c1
  clear h hm hs hw h64 hst
  go_enter Try.func27, Try.ntmps27
  go_wp2_with fail
  refine cs.mono ?_
  rintro e w1 ⟨rfl, h1⟩
  have ci := within_any h1
  rw [HW.out] at ci
  clear cs h1
  go_wp2_with fail
  refine ci.mono ?_
  rintro e w2 ⟨rfl, h2⟩
  have H2 := hidden h2
  clear ci h2
  go_wp2_with fail
  go_loopw [] (fun wr => ∃ j, i ≤ j ∧ Rd B R n w0 v f wr j d T ∧ (i < j → Cur f n o 3 d T i j)) (fun wr => n - atOf R wr)
  case atStart => exact ⟨i, Nat.le_refl _, H2.out, fun q => absurd q (Nat.lt_irrefl _)⟩
  case round =>
    obtain ⟨j, hij, hr, hm⟩ := hrel
    have Hat := hidden hr.at
    have HMj := hidden hm
    have Hjn := hidden hr.hi
    have ci := within_any hr
    have hjb : j ≤ 100000 := by have := hr.hi; have := Hn.out; omega
    clear hm hr H2
    cases hq : wth f n j with
    | true =>
      rw [hq] at ci
      simp [wth] at hq
      have HM3 : Hid (Cur f n o 3 d T i (j + 1)) := by
        rcases Nat.lt_or_ge i j with q | q
        · exact a_more (HMj.out q) hq.1 hq.2
        · obtain rfl : j = i := by omega
          exact HM.out
      have Hjl := hidden hq.1
      clear hq HM HMj
      go_wp2_with fail
      refine ci.mono ?_
      rintro e w3 ⟨rfl, tv3, h3⟩
      have c13 := h3.c1
      have fr3 := h3.free 1
      have H3 : Hid (RS B R n w0 v f (w3.setCell ⟨R, 1, none⟩ (.int .i64 ((j : Int) + 1))) tv3 (j + 1) d T) := by
        have := h3.at' (i' := j + 1) Hjl.out (Nat.le_succ _)
        simpa [Hid] using this
      clear ci h3
      go_wp2_with fail
      go_roundw
      case rel => exact ⟨j + 1, by omega, ⟨tv3, H3.out⟩, fun _ => HM3.out⟩
      case measure => rw [Rd.at ⟨tv3, H3.out⟩, Hat.out]; have := Hjl.out; omega
    | false =>
      rw [hq] at ci
      have hlt : i < j := by
        rcases Nat.lt_or_ge i j with q | q
        · exact q
        · obtain rfl : j = i := by omega
          rw [HW.out] at hq; cases hq
      have HC : Hid (Cv f n o (aft d) d (T ++ [(5, i, j - i)]) j) := a_end (HMj.out hlt) Hjn.out (fun q => by simpa [wth, q] using hq)
      clear hq HM HMj
      go_wp2_with fail
      refine ci.mono ?_
      rintro e w3 ⟨rfl, h3⟩
      have ct := token_any h3 5 i (by decide) (by omega) (by have := Hl.out; omega)
      clear ci h3
      go_wp2_with fail
      refine ct.mono ?_
      rintro e w4 ⟨rfl, j4, hk4, h4⟩
      have HK4 := hidden hk4
      have H4 := hidden h4
      clear ct hk4 h4
      go_wp2_with fail
      go_end0
      refine Or.inl ⟨rfl, j4, _, ?_, HK4.out.2.2.2, H4.out, ?_⟩
      · have := HK4.out.1; omega
      · exact b_skip (aft_ok d) HC.out HK4.out
end Go.Proofs.PlatenSexp
