/- What number of the reader comes to. -/
import Derived.Test.YtapghnmeiahgoaaJsF
namespace Go.Proofs.PlatenJson
open Go Go.RowKit
set_option linter.unusedVariables false
set_option maxRecDepth 100000
variable {B R n : Nat} {w0 : World} {v : Value} {f : Nat → Nat} {w : World} {i d : Nat} {T : List Tk}

def TkP (B R n : Nat) (w0 : World) (v : Value) (f : Nat → Nat) (i d : Nat) (T : List Tk) (s : ByteArray) (e : Ending) (w : World) : Prop :=
  ∃ b : Bool, e = .returned (.bool b) ∧ b = see f n i s ∧ Rd B R n w0 v f w (if b then i + 1 else i) d T
theorem take_b (h : Rd B R n w0 v f w i d T) (s : ByteArray) : Calls Try.prog 20 #[.pointer (some ⟨R, 0, none⟩), .string s] w (TkP B R n w0 v f i d T s) := by
  cases hs : see f n i s with
  | true => exact (take_yes h s hs).mono fun e w' ⟨he, hr⟩ => ⟨true, he, hs.symm, hr⟩
  | false => exact (take_no h s hs).mono fun e w' ⟨he, hr⟩ => ⟨false, he, hs.symm, hr⟩

/-- A number begins; or its sign has been passed. -/
def NS (f : Nat → Nat) (n : Nat) (o : Res) (S : List Nat) (T : List Tk) (fr j : Nat) : Prop :=
  (∃ st, (st = 0 ∨ st = 1) ∧ Cv f n o st S T false j ∧ j = fr ∧ (j < n → isB (f j) = false ∧ (st = 1 → f j ≠ 93) ∧ (isV (f j) = true → isD (f j) = true))) ∨ Cur f n o 9 S T false fr j
def Num1 (f : Nat → Nat) (n : Nat) (o : Res) (S : List Nat) (T : List Tk) (fr j : Nat) : Prop := ∃ st, (st = 10 ∨ st = 11) ∧ Cur f n o st S T false fr j ∧ (j < n → st = 11 → isD (f j) = false)
def Num2 (f : Nat → Nat) (n : Nat) (o : Res) (S : List Nat) (T : List Tk) (fr j : Nat) : Prop := ∃ st, (st = 10 ∨ st = 11 ∨ st = 13) ∧ Cur f n o st S T false fr j ∧ (j < n → (st ≠ 10 → isD (f j) = false) ∧ (st ≠ 13 → f j ≠ 46))
def Num3 (f : Nat → Nat) (n : Nat) (o : Res) (S : List Nat) (T : List Tk) (fr j : Nat) : Prop := ∃ st, ends st = true ∧ Cur f n o st S T false fr j ∧ (j < n → (numb st (f j)).2 = false)
section
variable {o : Res} {S : List Nat} {fr j j2 : Nat}
theorem n_digits {st : Nat} (hs : st = 11 ∨ st = 13 ∨ st = 16) (h : Cur f n o st S T false fr j) (hle : j ≤ j2) (hn : j2 ≤ n) (ha : ∀ k, j ≤ k → k < j2 → isD (f k) = true) : Cur f n o st S T false fr j2 := by
  have : ∀ d, j + d ≤ j2 → Cur f n o st S T false fr (j + d) := by
    intro d
    induction d with
    | zero => intro _; exact h
    | succ d ih => intro hd; exact n_digit (j := j + d) (ih (by omega)) hs (by omega) (ha (j + d) (by omega) (by omega))
  have := this (j2 - j) (by omega)
  rwa [show j + (j2 - j) = j2 by omega] at this
theorem ns_zero (h : NS f n o S T fr j) (hj : j < n) (hc : f j = 48) : Num1 f n o S T fr (j + 1) := by
  rcases h with ⟨st, hs, h, rfl, _⟩ | h
  · exact ⟨10, Or.inl rfl, s_zero h hs hj hc, fun _ e => by cases e⟩
  · exact ⟨10, Or.inl rfl, m_zero h hj hc, fun _ e => by cases e⟩
theorem ns_digits (h : NS f n o S T fr j) (hj : j < n) (h0 : f j ≠ 48) (hle : j < j2) (hn : j2 ≤ n) (ha : ∀ k, j ≤ k → k < j2 → isD (f k) = true) (he : j2 < n → isD (f j2) = false) : Num1 f n o S T fr j2 := by
  refine ⟨11, Or.inr rfl, n_digits (Or.inl rfl) (j := j + 1) ?_ (by omega) hn (fun k h1 h2 => ha k (by omega) h2), fun q _ => he q⟩
  rcases h with ⟨st, hs, h, rfl, _⟩ | h
  · exact s_digit h hs hj (ha j (Nat.le_refl _) hle) h0
  · exact m_digit h hj (ha j (Nat.le_refl _) hle) h0
theorem ns_bad (h : NS f n o S T fr j) (hle : j ≤ n) (hd : j < n → isD (f j) = false) : o = ([], j, 5) := by
  rcases Nat.lt_or_ge j n with hj | hj
  · rcases h with ⟨st, hs, h, rfl, h2⟩ | h
    · obtain ⟨a, b, c⟩ := h2 hj
      refine v_bad h hs hj a ?_ b
      cases hv : isV (f j) with
      | false => rfl
      | true => have := c hv; rw [hd hj] at this; cases this
    · exact n_bad h (Or.inl rfl) hj (hd hj) (fun e => by cases e)
  · obtain rfl : j = n := by omega
    rcases h with ⟨st, hs, h, rfl, h2⟩ | h
    · exact v_end h (by omega)
    · exact n_bad_end h rfl (by decide)
theorem num1_no (h : Num1 f n o S T fr j) (hp : j < n → f j ≠ 46) : Num2 f n o S T fr j := by
  obtain ⟨st, hs, h, h1⟩ := h
  exact ⟨st, by omega, h, fun q => ⟨fun e => h1 q (by omega), fun _ => hp q⟩⟩
theorem num1_pt (h : Num1 f n o S T fr j) (hj : j < n) (hc : f j = 46) : Cur f n o 12 S T false fr (j + 1) := by
  obtain ⟨st, hs, h, h1⟩ := h
  exact n_point h hs hj hc
theorem pt_digits (h : Cur f n o 12 S T false fr j) (hj : j < n) (hle : j < j2) (hn : j2 ≤ n) (ha : ∀ k, j ≤ k → k < j2 → isD (f k) = true) (he : j2 < n → isD (f j2) = false) : Num2 f n o S T fr j2 :=
  ⟨13, by omega, n_digits (Or.inr (Or.inl rfl)) (n_frac h hj (ha j (Nat.le_refl _) hle)) (by omega) hn (fun k h1 h2 => ha k (by omega) h2), fun q => ⟨fun _ => he q, fun e => absurd rfl e⟩⟩
theorem cur_bad {st : Nat} (hs : st = 12 ∨ st = 14 ∨ st = 15) (h : Cur f n o st S T false fr j) (hle : j ≤ n) (hd : j < n → isD (f j) = false) (h14 : j < n → st = 14 → f j ≠ 43 ∧ f j ≠ 45) : o = ([], j, 5) := by
  rcases Nat.lt_or_ge j n with hj | hj
  · exact n_bad h (by omega) hj (hd hj) (h14 hj)
  · obtain rfl : j = n := by omega
    exact n_bad_end h (by rcases hs with rfl | rfl | rfl <;> rfl) (by omega)
theorem num2_no (h : Num2 f n o S T fr j) (hp : j < n → f j ≠ 101 ∧ f j ≠ 69) : Num3 f n o S T fr j := by
  obtain ⟨st, hs, h, h1⟩ := h
  refine ⟨st, by rcases hs with rfl | rfl | rfl <;> rfl, h, fun q => ?_⟩
  obtain ⟨a, b⟩ := hp q
  obtain ⟨c, e⟩ := h1 q
  rcases hs with rfl | rfl | rfl
  · have := e (by decide); simp [numb, a, b, this]
  · have := e (by decide); have h2 := c (by decide); simp [numb, a, b, this, h2]
  · have h2 := c (by decide); simp [numb, a, b, h2]
theorem num2_e (h : Num2 f n o S T fr j) (hj : j < n) (hc : f j = 101 ∨ f j = 69) : Cur f n o 14 S T false fr (j + 1) := by
  obtain ⟨st, hs, h, h1⟩ := h
  exact n_exp h hs hj hc
/-- Behind the e, and a sign, if there is one. -/
def ExP (f : Nat → Nat) (n : Nat) (o : Res) (S : List Nat) (T : List Tk) (fr j : Nat) : Prop := ∃ st, (st = 14 ∨ st = 15) ∧ Cur f n o st S T false fr j ∧ (j < n → st = 14 → f j ≠ 43 ∧ f j ≠ 45)
theorem ex_digits (h : ExP f n o S T fr j) (hj : j < n) (hle : j < j2) (hn : j2 ≤ n) (ha : ∀ k, j ≤ k → k < j2 → isD (f k) = true) (he : j2 < n → isD (f j2) = false) : Num3 f n o S T fr j2 := by
  obtain ⟨st, hs, h, _⟩ := h
  exact ⟨16, rfl, n_digits (Or.inr (Or.inr rfl)) (n_pow h hs hj (ha j (Nat.le_refl _) hle)) (by omega) hn (fun k h1 h2 => ha k (by omega) h2), fun q => by simp [numb, he q]⟩
theorem ex_bad (h : ExP f n o S T fr j) (hle : j ≤ n) (hd : j < n → isD (f j) = false) : o = ([], j, 5) := by
  obtain ⟨st, hs, h, h14⟩ := h
  exact cur_bad (by omega) h hle hd h14
theorem num3_end (h : Num3 f n o S T fr j) (hle : j ≤ n) : Cv f n o 5 S (T ++ [(5, fr, j - fr)]) false j := by
  obtain ⟨st, hs, h, h1⟩ := h
  exact n_atom h hs hle h1
end

set_option maxHeartbeats 4000000 in
theorem number_any {o : Res} {S : List Nat} {st : Nat} (h : Rd B R n w0 v f w i d T) (hst : st = 0 ∨ st = 1) (hc : Cv f n o st S T false i) (hb : i < n → isB (f i) = false ∧ (st = 1 → f i ≠ 93) ∧ (isV (f i) = true → isD (f i) = true ∨ f i = 45)) :
    Calls Try.prog 26 #[.pointer (some ⟨R, 0, none⟩)] w (Done B R n w0 v f o d i 5 S) := by
  have Hl := hidden h.len
  have ct := take_b h ⟨#[45]⟩
  have Hs0 := hidden (see_1 h 45)
  have HC := hidden hc
  have Hst := hidden hst
  have Hb := hidden hb
  obtain ⟨tv, h⟩ := h
  have c1 := h.c1
  clear h hc hst hb
  go_enter Try.func26, Try.ntmps26
  go_wp2_with fail
  refine ct.mono ?_
  rintro e w1 ⟨b, rfl, hbs, h1⟩
  have HN : Hid (NS f n o S T i (if b then i + 1 else i)) := by
    rw [Hs0.out] at hbs
    cases b with
    | true =>
      simp at hbs
      exact Or.inr (s_minus HC.out Hst.out hbs.1 (by simpa using hbs.2))
    | false =>
      refine Or.inl ⟨st, Hst.out, HC.out, rfl, fun q => ⟨(Hb.out q).1, (Hb.out q).2.1, fun hv => ?_⟩⟩
      rcases (Hb.out q).2.2 hv with h | h
      · exact h
      · simp at hbs; exact absurd h (hbs q)
  have Hi1 : Hid (i ≤ (if b then i + 1 else i)) := by unfold Hid; split <;> omega
  clear ct c1 hbs HC Hst Hb Hs0
  generalize (if b then i + 1 else i) = j1 at *
  cases hsz : see f n j1 ⟨#[48]⟩ with
  | true =>
    have ct := take_yes h1 _ hsz
    rw [see_1 h1] at hsz
    simp at hsz
    have HN1 := hidden (ns_zero HN.out hsz.1 hsz.2)
    have HI1 : Hid (i < j1 + 1) := by have := Hi1.out; unfold Hid; omega
    clear hsz h1 HN Hi1
    go_wp2_with fail
    refine ct.mono ?_
    rintro e w2 ⟨rfl, h2⟩
    have HR1 := hidden h2
    clear ct h2
    generalize j1 + 1 = jb at *
    go_wp2_with fail
    cases hsp : see f n jb ⟨#[46]⟩ with
    | true =>
      have ct := take_yes HR1.out _ hsp
      rw [see_1 HR1.out] at hsp
      simp at hsp
      have HP := hidden (num1_pt HN1.out hsp.1 hsp.2)
      clear hsp HN1 HR1
      go_wp2_with fail
      refine ct.mono ?_
      rintro e w3 ⟨rfl, h3⟩
      have HR4 := hidden h3
      clear ct h3
      go_wp2_with fail
      by_cases hd : (jb + 1) < n ∧ isD (f (jb + 1)) = true
      · have cd := digits_yes HR4.out hd.1 hd.2
        have Hd := hidden hd
        clear HR4 hd
        go_wp2_with fail
        refine cd.mono ?_
        rintro e w5 ⟨rfl, jd, hjd, hjn, hall, hno, h5⟩
        have H5 := hidden h5
        have HN2 := hidden (pt_digits HP.out Hd.out.1 hjd hjn hall hno)
        have HR2 := H5
        have HI2 : Hid (i < jd) := by have := HI1.out; unfold Hid; omega
        clear cd Hd hjd hjn hall hno h5 H5 HP HI1
        generalize jd = j2 at *
        go_wp2_with fail
        cases hse : see f n j2 ⟨#[101, 69]⟩ with
        | true =>
          have ct := take_yes HR2.out _ hse
          rw [see_2 HR2.out] at hse
          simp at hse
          have HE := hidden (num2_e HN2.out hse.1 hse.2)
          clear hse HN2 HR2
          go_wp2_with fail
          refine ct.mono ?_
          rintro e w3 ⟨rfl, h3⟩
          have cs := take_b h3 ⟨#[43, 45]⟩
          have Hs3 := hidden (see_2 h3 43 45)
          clear ct h3
          go_wp2_with fail
          refine cs.mono ?_
          rintro e w4 ⟨b4, rfl, hb4, h4⟩
          have HX : Hid (ExP f n o S T i (if b4 then j2 + 1 + 1 else j2 + 1)) := by
            rw [Hs3.out] at hb4
            cases b4 with
            | true =>
              simp at hb4
              exact ⟨15, Or.inr rfl, n_sign HE.out hb4.1 (by simpa using hb4.2), fun _ e => by cases e⟩
            | false =>
              simp at hb4
              exact ⟨14, Or.inl rfl, HE.out, fun q _ => hb4 q⟩
          have HI4 : Hid (j2 ≤ (if b4 then j2 + 1 + 1 else j2 + 1)) := by unfold Hid; split <;> omega
          have HR4 := hidden h4
          clear cs hb4 h4 Hs3 HE
          generalize (if b4 then j2 + 1 + 1 else j2 + 1) = j4 at *
          by_cases hd : j4 < n ∧ isD (f j4) = true
          · have cd := digits_yes HR4.out hd.1 hd.2
            have Hd := hidden hd
            clear HR4 hd
            go_wp2_with fail
            refine cd.mono ?_
            rintro e w5 ⟨rfl, jd, hjd, hjn, hall, hno, h5⟩
            have H5 := hidden h5
            have HN3 := hidden (ex_digits HX.out Hd.out.1 hjd hjn hall hno)
            have HR3 := H5
            have HI3 : Hid (i < jd) := by have := HI2.out; have := HI4.out; unfold Hid; omega
            clear cd Hd hjd hjn hall hno h5 H5 HX HI4
            go_wp2_with fail
            have ct := token_any HR3.out 5 i (by decide) (by have := HI3.out; omega) (by have := Hl.out; have := HI3.out; omega)
            have HV := hidden (num3_end HN3.out HR3.out.hi)
            clear HN3 HR3
            go_wp2_with fail
            refine ct.mono ?_
            rintro e w9 ⟨rfl, j9, hk9, h9⟩
            have HK9 := hidden hk9
            have H9 := hidden h9
            clear ct hk9 h9
            go_wp2_with fail
            go_end0
            refine Or.inl ⟨rfl, j9, _, ?_, HK9.out.2.2.2, H9.out, b_skip (by decide) HV.out HK9.out⟩
            have := HK9.out.1; have := HI3.out; omega
          · have cd := digits_no HR4.out (fun q => by cases hx : isD (f j4) with | false => rfl | true => exact absurd ⟨q, hx⟩ hd)
            have HO : Hid (o = ([], j4, 5)) := ex_bad HX.out HR4.out.hi (fun q => by cases hx : isD (f j4) with | false => rfl | true => exact absurd ⟨q, hx⟩ hd)
            clear hd
            go_wp2_with fail
            refine cd.mono ?_
            rintro e w5 ⟨rfl, h5⟩
            have H5 := hidden h5
            clear cd h5
            go_wp2_with fail
            exact ⟨rfl, Or.inr ⟨5, j4, rfl, H5.out.x, HO.out⟩⟩
        | false =>
          have ct := take_no HR2.out _ hse
          rw [see_2 HR2.out] at hse
          have HN3 := hidden (num2_no HN2.out (fun q => by simpa [q] using hse))
          clear hse HN2 HR2
          go_wp2_with fail
          refine ct.mono ?_
          rintro e w3 ⟨rfl, h3⟩
          have HR3 := hidden h3
          have HI3 := HI2
          clear ct h3
          go_wp2_with fail
          have ct := token_any HR3.out 5 i (by decide) (by have := HI3.out; omega) (by have := Hl.out; have := HI3.out; omega)
          have HV := hidden (num3_end HN3.out HR3.out.hi)
          clear HN3 HR3
          go_wp2_with fail
          refine ct.mono ?_
          rintro e w9 ⟨rfl, j9, hk9, h9⟩
          have HK9 := hidden hk9
          have H9 := hidden h9
          clear ct hk9 h9
          go_wp2_with fail
          go_end0
          refine Or.inl ⟨rfl, j9, _, ?_, HK9.out.2.2.2, H9.out, b_skip (by decide) HV.out HK9.out⟩
          have := HK9.out.1; have := HI3.out; omega
      · have cd := digits_no HR4.out (fun q => by cases hx : isD (f (jb + 1)) with | false => rfl | true => exact absurd ⟨q, hx⟩ hd)
        have HO : Hid (o = ([], (jb + 1), 5)) := cur_bad (Or.inl rfl) HP.out HR4.out.hi (fun q => by cases hx : isD (f (jb + 1)) with | false => rfl | true => exact absurd ⟨q, hx⟩ hd) (fun _ e => by cases e)
        clear hd
        go_wp2_with fail
        refine cd.mono ?_
        rintro e w5 ⟨rfl, h5⟩
        have H5 := hidden h5
        clear cd h5
        go_wp2_with fail
        exact ⟨rfl, Or.inr ⟨5, (jb + 1), rfl, H5.out.x, HO.out⟩⟩
    | false =>
      have ct := take_no HR1.out _ hsp
      rw [see_1 HR1.out] at hsp
      have HN2 := hidden (num1_no HN1.out (fun q => by simpa [q] using hsp))
      clear hsp HN1 HR1
      go_wp2_with fail
      refine ct.mono ?_
      rintro e w3 ⟨rfl, h3⟩
      have HR2 := hidden h3
      have HI2 := HI1
      clear ct h3 HI1
      generalize jb = j2 at *
      go_wp2_with fail
      cases hse : see f n j2 ⟨#[101, 69]⟩ with
      | true =>
        have ct := take_yes HR2.out _ hse
        rw [see_2 HR2.out] at hse
        simp at hse
        have HE := hidden (num2_e HN2.out hse.1 hse.2)
        clear hse HN2 HR2
        go_wp2_with fail
        refine ct.mono ?_
        rintro e w3 ⟨rfl, h3⟩
        have cs := take_b h3 ⟨#[43, 45]⟩
        have Hs3 := hidden (see_2 h3 43 45)
        clear ct h3
        go_wp2_with fail
        refine cs.mono ?_
        rintro e w4 ⟨b4, rfl, hb4, h4⟩
        have HX : Hid (ExP f n o S T i (if b4 then j2 + 1 + 1 else j2 + 1)) := by
          rw [Hs3.out] at hb4
          cases b4 with
          | true =>
            simp at hb4
            exact ⟨15, Or.inr rfl, n_sign HE.out hb4.1 (by simpa using hb4.2), fun _ e => by cases e⟩
          | false =>
            simp at hb4
            exact ⟨14, Or.inl rfl, HE.out, fun q _ => hb4 q⟩
        have HI4 : Hid (j2 ≤ (if b4 then j2 + 1 + 1 else j2 + 1)) := by unfold Hid; split <;> omega
        have HR4 := hidden h4
        clear cs hb4 h4 Hs3 HE
        generalize (if b4 then j2 + 1 + 1 else j2 + 1) = j4 at *
        by_cases hd : j4 < n ∧ isD (f j4) = true
        · have cd := digits_yes HR4.out hd.1 hd.2
          have Hd := hidden hd
          clear HR4 hd
          go_wp2_with fail
          refine cd.mono ?_
          rintro e w5 ⟨rfl, jd, hjd, hjn, hall, hno, h5⟩
          have H5 := hidden h5
          have HN3 := hidden (ex_digits HX.out Hd.out.1 hjd hjn hall hno)
          have HR3 := H5
          have HI3 : Hid (i < jd) := by have := HI2.out; have := HI4.out; unfold Hid; omega
          clear cd Hd hjd hjn hall hno h5 H5 HX HI4
          go_wp2_with fail
          have ct := token_any HR3.out 5 i (by decide) (by have := HI3.out; omega) (by have := Hl.out; have := HI3.out; omega)
          have HV := hidden (num3_end HN3.out HR3.out.hi)
          clear HN3 HR3
          go_wp2_with fail
          refine ct.mono ?_
          rintro e w9 ⟨rfl, j9, hk9, h9⟩
          have HK9 := hidden hk9
          have H9 := hidden h9
          clear ct hk9 h9
          go_wp2_with fail
          go_end0
          refine Or.inl ⟨rfl, j9, _, ?_, HK9.out.2.2.2, H9.out, b_skip (by decide) HV.out HK9.out⟩
          have := HK9.out.1; have := HI3.out; omega
        · have cd := digits_no HR4.out (fun q => by cases hx : isD (f j4) with | false => rfl | true => exact absurd ⟨q, hx⟩ hd)
          have HO : Hid (o = ([], j4, 5)) := ex_bad HX.out HR4.out.hi (fun q => by cases hx : isD (f j4) with | false => rfl | true => exact absurd ⟨q, hx⟩ hd)
          clear hd
          go_wp2_with fail
          refine cd.mono ?_
          rintro e w5 ⟨rfl, h5⟩
          have H5 := hidden h5
          clear cd h5
          go_wp2_with fail
          exact ⟨rfl, Or.inr ⟨5, j4, rfl, H5.out.x, HO.out⟩⟩
      | false =>
        have ct := take_no HR2.out _ hse
        rw [see_2 HR2.out] at hse
        have HN3 := hidden (num2_no HN2.out (fun q => by simpa [q] using hse))
        clear hse HN2 HR2
        go_wp2_with fail
        refine ct.mono ?_
        rintro e w3 ⟨rfl, h3⟩
        have HR3 := hidden h3
        have HI3 := HI2
        clear ct h3
        go_wp2_with fail
        have ct := token_any HR3.out 5 i (by decide) (by have := HI3.out; omega) (by have := Hl.out; have := HI3.out; omega)
        have HV := hidden (num3_end HN3.out HR3.out.hi)
        clear HN3 HR3
        go_wp2_with fail
        refine ct.mono ?_
        rintro e w9 ⟨rfl, j9, hk9, h9⟩
        have HK9 := hidden hk9
        have H9 := hidden h9
        clear ct hk9 h9
        go_wp2_with fail
        go_end0
        refine Or.inl ⟨rfl, j9, _, ?_, HK9.out.2.2.2, H9.out, b_skip (by decide) HV.out HK9.out⟩
        have := HK9.out.1; have := HI3.out; omega
  | false =>
    have ct := take_no h1 _ hsz
    rw [see_1 h1] at hsz
    have H48' : Hid (j1 < n → f j1 ≠ 48) := fun q => by simpa [q] using hsz
    clear hsz h1
    go_wp2_with fail
    refine ct.mono ?_
    rintro e w2 ⟨rfl, h2⟩
    have HR1 := hidden h2
    clear ct h2
    go_wp2_with fail
    by_cases hd : j1 < n ∧ isD (f j1) = true
    · have cd := digits_yes HR1.out hd.1 hd.2
      have Hd := hidden hd
      clear HR1 hd
      go_wp2_with fail
      refine cd.mono ?_
      rintro e w5 ⟨rfl, jd, hjd, hjn, hall, hno, h5⟩
      have H5 := hidden h5
      have H48 : Hid (f j1 ≠ 48) := H48'.out Hd.out.1
      clear H48'
      have HN1 := hidden (ns_digits HN.out Hd.out.1 H48.out hjd hjn hall hno)
      have HR1 := H5
      have HI1 : Hid (i < jd) := by have := Hi1.out; unfold Hid; omega
      clear cd Hd hjd hjn hall hno h5 H5 HN Hi1 H48
      generalize jd = jb at *
      go_wp2_with fail
      cases hsp : see f n jb ⟨#[46]⟩ with
      | true =>
        have ct := take_yes HR1.out _ hsp
        rw [see_1 HR1.out] at hsp
        simp at hsp
        have HP := hidden (num1_pt HN1.out hsp.1 hsp.2)
        clear hsp HN1 HR1
        go_wp2_with fail
        refine ct.mono ?_
        rintro e w3 ⟨rfl, h3⟩
        have HR4 := hidden h3
        clear ct h3
        go_wp2_with fail
        by_cases hd : (jb + 1) < n ∧ isD (f (jb + 1)) = true
        · have cd := digits_yes HR4.out hd.1 hd.2
          have Hd := hidden hd
          clear HR4 hd
          go_wp2_with fail
          refine cd.mono ?_
          rintro e w5 ⟨rfl, jd, hjd, hjn, hall, hno, h5⟩
          have H5 := hidden h5
          have HN2 := hidden (pt_digits HP.out Hd.out.1 hjd hjn hall hno)
          have HR2 := H5
          have HI2 : Hid (i < jd) := by have := HI1.out; unfold Hid; omega
          clear cd Hd hjd hjn hall hno h5 H5 HP HI1
          generalize jd = j2 at *
          go_wp2_with fail
          cases hse : see f n j2 ⟨#[101, 69]⟩ with
          | true =>
            have ct := take_yes HR2.out _ hse
            rw [see_2 HR2.out] at hse
            simp at hse
            have HE := hidden (num2_e HN2.out hse.1 hse.2)
            clear hse HN2 HR2
            go_wp2_with fail
            refine ct.mono ?_
            rintro e w3 ⟨rfl, h3⟩
            have cs := take_b h3 ⟨#[43, 45]⟩
            have Hs3 := hidden (see_2 h3 43 45)
            clear ct h3
            go_wp2_with fail
            refine cs.mono ?_
            rintro e w4 ⟨b4, rfl, hb4, h4⟩
            have HX : Hid (ExP f n o S T i (if b4 then j2 + 1 + 1 else j2 + 1)) := by
              rw [Hs3.out] at hb4
              cases b4 with
              | true =>
                simp at hb4
                exact ⟨15, Or.inr rfl, n_sign HE.out hb4.1 (by simpa using hb4.2), fun _ e => by cases e⟩
              | false =>
                simp at hb4
                exact ⟨14, Or.inl rfl, HE.out, fun q _ => hb4 q⟩
            have HI4 : Hid (j2 ≤ (if b4 then j2 + 1 + 1 else j2 + 1)) := by unfold Hid; split <;> omega
            have HR4 := hidden h4
            clear cs hb4 h4 Hs3 HE
            generalize (if b4 then j2 + 1 + 1 else j2 + 1) = j4 at *
            by_cases hd : j4 < n ∧ isD (f j4) = true
            · have cd := digits_yes HR4.out hd.1 hd.2
              have Hd := hidden hd
              clear HR4 hd
              go_wp2_with fail
              refine cd.mono ?_
              rintro e w5 ⟨rfl, jd, hjd, hjn, hall, hno, h5⟩
              have H5 := hidden h5
              have HN3 := hidden (ex_digits HX.out Hd.out.1 hjd hjn hall hno)
              have HR3 := H5
              have HI3 : Hid (i < jd) := by have := HI2.out; have := HI4.out; unfold Hid; omega
              clear cd Hd hjd hjn hall hno h5 H5 HX HI4
              go_wp2_with fail
              have ct := token_any HR3.out 5 i (by decide) (by have := HI3.out; omega) (by have := Hl.out; have := HI3.out; omega)
              have HV := hidden (num3_end HN3.out HR3.out.hi)
              clear HN3 HR3
              go_wp2_with fail
              refine ct.mono ?_
              rintro e w9 ⟨rfl, j9, hk9, h9⟩
              have HK9 := hidden hk9
              have H9 := hidden h9
              clear ct hk9 h9
              go_wp2_with fail
              go_end0
              refine Or.inl ⟨rfl, j9, _, ?_, HK9.out.2.2.2, H9.out, b_skip (by decide) HV.out HK9.out⟩
              have := HK9.out.1; have := HI3.out; omega
            · have cd := digits_no HR4.out (fun q => by cases hx : isD (f j4) with | false => rfl | true => exact absurd ⟨q, hx⟩ hd)
              have HO : Hid (o = ([], j4, 5)) := ex_bad HX.out HR4.out.hi (fun q => by cases hx : isD (f j4) with | false => rfl | true => exact absurd ⟨q, hx⟩ hd)
              clear hd
              go_wp2_with fail
              refine cd.mono ?_
              rintro e w5 ⟨rfl, h5⟩
              have H5 := hidden h5
              clear cd h5
              go_wp2_with fail
              exact ⟨rfl, Or.inr ⟨5, j4, rfl, H5.out.x, HO.out⟩⟩
          | false =>
            have ct := take_no HR2.out _ hse
            rw [see_2 HR2.out] at hse
            have HN3 := hidden (num2_no HN2.out (fun q => by simpa [q] using hse))
            clear hse HN2 HR2
            go_wp2_with fail
            refine ct.mono ?_
            rintro e w3 ⟨rfl, h3⟩
            have HR3 := hidden h3
            have HI3 := HI2
            clear ct h3
            go_wp2_with fail
            have ct := token_any HR3.out 5 i (by decide) (by have := HI3.out; omega) (by have := Hl.out; have := HI3.out; omega)
            have HV := hidden (num3_end HN3.out HR3.out.hi)
            clear HN3 HR3
            go_wp2_with fail
            refine ct.mono ?_
            rintro e w9 ⟨rfl, j9, hk9, h9⟩
            have HK9 := hidden hk9
            have H9 := hidden h9
            clear ct hk9 h9
            go_wp2_with fail
            go_end0
            refine Or.inl ⟨rfl, j9, _, ?_, HK9.out.2.2.2, H9.out, b_skip (by decide) HV.out HK9.out⟩
            have := HK9.out.1; have := HI3.out; omega
        · have cd := digits_no HR4.out (fun q => by cases hx : isD (f (jb + 1)) with | false => rfl | true => exact absurd ⟨q, hx⟩ hd)
          have HO : Hid (o = ([], (jb + 1), 5)) := cur_bad (Or.inl rfl) HP.out HR4.out.hi (fun q => by cases hx : isD (f (jb + 1)) with | false => rfl | true => exact absurd ⟨q, hx⟩ hd) (fun _ e => by cases e)
          clear hd
          go_wp2_with fail
          refine cd.mono ?_
          rintro e w5 ⟨rfl, h5⟩
          have H5 := hidden h5
          clear cd h5
          go_wp2_with fail
          exact ⟨rfl, Or.inr ⟨5, (jb + 1), rfl, H5.out.x, HO.out⟩⟩
      | false =>
        have ct := take_no HR1.out _ hsp
        rw [see_1 HR1.out] at hsp
        have HN2 := hidden (num1_no HN1.out (fun q => by simpa [q] using hsp))
        clear hsp HN1 HR1
        go_wp2_with fail
        refine ct.mono ?_
        rintro e w3 ⟨rfl, h3⟩
        have HR2 := hidden h3
        have HI2 := HI1
        clear ct h3 HI1
        generalize jb = j2 at *
        go_wp2_with fail
        cases hse : see f n j2 ⟨#[101, 69]⟩ with
        | true =>
          have ct := take_yes HR2.out _ hse
          rw [see_2 HR2.out] at hse
          simp at hse
          have HE := hidden (num2_e HN2.out hse.1 hse.2)
          clear hse HN2 HR2
          go_wp2_with fail
          refine ct.mono ?_
          rintro e w3 ⟨rfl, h3⟩
          have cs := take_b h3 ⟨#[43, 45]⟩
          have Hs3 := hidden (see_2 h3 43 45)
          clear ct h3
          go_wp2_with fail
          refine cs.mono ?_
          rintro e w4 ⟨b4, rfl, hb4, h4⟩
          have HX : Hid (ExP f n o S T i (if b4 then j2 + 1 + 1 else j2 + 1)) := by
            rw [Hs3.out] at hb4
            cases b4 with
            | true =>
              simp at hb4
              exact ⟨15, Or.inr rfl, n_sign HE.out hb4.1 (by simpa using hb4.2), fun _ e => by cases e⟩
            | false =>
              simp at hb4
              exact ⟨14, Or.inl rfl, HE.out, fun q _ => hb4 q⟩
          have HI4 : Hid (j2 ≤ (if b4 then j2 + 1 + 1 else j2 + 1)) := by unfold Hid; split <;> omega
          have HR4 := hidden h4
          clear cs hb4 h4 Hs3 HE
          generalize (if b4 then j2 + 1 + 1 else j2 + 1) = j4 at *
          by_cases hd : j4 < n ∧ isD (f j4) = true
          · have cd := digits_yes HR4.out hd.1 hd.2
            have Hd := hidden hd
            clear HR4 hd
            go_wp2_with fail
            refine cd.mono ?_
            rintro e w5 ⟨rfl, jd, hjd, hjn, hall, hno, h5⟩
            have H5 := hidden h5
            have HN3 := hidden (ex_digits HX.out Hd.out.1 hjd hjn hall hno)
            have HR3 := H5
            have HI3 : Hid (i < jd) := by have := HI2.out; have := HI4.out; unfold Hid; omega
            clear cd Hd hjd hjn hall hno h5 H5 HX HI4
            go_wp2_with fail
            have ct := token_any HR3.out 5 i (by decide) (by have := HI3.out; omega) (by have := Hl.out; have := HI3.out; omega)
            have HV := hidden (num3_end HN3.out HR3.out.hi)
            clear HN3 HR3
            go_wp2_with fail
            refine ct.mono ?_
            rintro e w9 ⟨rfl, j9, hk9, h9⟩
            have HK9 := hidden hk9
            have H9 := hidden h9
            clear ct hk9 h9
            go_wp2_with fail
            go_end0
            refine Or.inl ⟨rfl, j9, _, ?_, HK9.out.2.2.2, H9.out, b_skip (by decide) HV.out HK9.out⟩
            have := HK9.out.1; have := HI3.out; omega
          · have cd := digits_no HR4.out (fun q => by cases hx : isD (f j4) with | false => rfl | true => exact absurd ⟨q, hx⟩ hd)
            have HO : Hid (o = ([], j4, 5)) := ex_bad HX.out HR4.out.hi (fun q => by cases hx : isD (f j4) with | false => rfl | true => exact absurd ⟨q, hx⟩ hd)
            clear hd
            go_wp2_with fail
            refine cd.mono ?_
            rintro e w5 ⟨rfl, h5⟩
            have H5 := hidden h5
            clear cd h5
            go_wp2_with fail
            exact ⟨rfl, Or.inr ⟨5, j4, rfl, H5.out.x, HO.out⟩⟩
        | false =>
          have ct := take_no HR2.out _ hse
          rw [see_2 HR2.out] at hse
          have HN3 := hidden (num2_no HN2.out (fun q => by simpa [q] using hse))
          clear hse HN2 HR2
          go_wp2_with fail
          refine ct.mono ?_
          rintro e w3 ⟨rfl, h3⟩
          have HR3 := hidden h3
          have HI3 := HI2
          clear ct h3
          go_wp2_with fail
          have ct := token_any HR3.out 5 i (by decide) (by have := HI3.out; omega) (by have := Hl.out; have := HI3.out; omega)
          have HV := hidden (num3_end HN3.out HR3.out.hi)
          clear HN3 HR3
          go_wp2_with fail
          refine ct.mono ?_
          rintro e w9 ⟨rfl, j9, hk9, h9⟩
          have HK9 := hidden hk9
          have H9 := hidden h9
          clear ct hk9 h9
          go_wp2_with fail
          go_end0
          refine Or.inl ⟨rfl, j9, _, ?_, HK9.out.2.2.2, H9.out, b_skip (by decide) HV.out HK9.out⟩
          have := HK9.out.1; have := HI3.out; omega
    · have cd := digits_no HR1.out (fun q => by cases hx : isD (f j1) with | false => rfl | true => exact absurd ⟨q, hx⟩ hd)
      have HO : Hid (o = ([], j1, 5)) := ns_bad HN.out HR1.out.hi (fun q => by cases hx : isD (f j1) with | false => rfl | true => exact absurd ⟨q, hx⟩ hd)
      clear hd
      go_wp2_with fail
      refine cd.mono ?_
      rintro e w5 ⟨rfl, h5⟩
      have H5 := hidden h5
      clear cd h5
      go_wp2_with fail
      exact ⟨rfl, Or.inr ⟨5, j1, rfl, H5.out.x, HO.out⟩⟩
end Go.Proofs.PlatenJson
