/- What value, list and member of the reader come to. -/
import Derived.Test.YtapghnmeiahgoaaJsG
namespace Go.Proofs.PlatenJson
open Go Go.RowKit
set_option linter.unusedVariables false
set_option maxRecDepth 100000

/-- A value can be read at byte i; an element; a name with its value. -/
def El (B R n : Nat) (w0 : World) (v : Value) (f : Nat → Nat) (F s0 s1 c : Nat) (i : Nat) : Prop :=
  ∀ (w : World) (d : Nat) (T : List Tk) (o : Res) (S : List Nat) (st : Nat), Rd B R n w0 v f w i d T → d = S.length → (st = s0 ∨ st = s1) → Cv f n o st S T false i → (i < n → isB (f i) = false ∧ (st = s0 → f i ≠ c)) →
    Calls Try.prog F #[.pointer (some ⟨R, 0, none⟩)] w (Done B R n w0 v f o d i 5 S)
variable {B R n : Nat} {w0 : World} {v : Value} {f : Nat → Nat} {w : World} {i d : Nat} {T : List Tk}

set_option maxHeartbeats 4000000 in
theorem list_sq {o : Res} {S : List Nat} {st : Nat} (h : Rd B R n w0 v f w i d T) (hd : d = S.length) (hst : st = 0 ∨ st = 1) (hi : i < n) (hb : f i = 91) (hm : Cv f n o st S T false i) (hE : ∀ i', i < i' → El B R n w0 v f 16 1 0 93 i') :
    Calls Try.prog 22 #[.pointer (some ⟨R, 0, none⟩), .string ⟨#[93]⟩, .func (.func 16) #[.pointer (some ⟨R, 0, none⟩)] #[]] w (Done B R n w0 v f o d i 5 S) := by
  obtain ⟨tv, h⟩ := h
  have c2 := h.c2
  have hd5 := h.hd
  have HE := hidden hE
  clear hE
  by_cases h5 : d = 512
  · have hz : ((d : Int) == 512) = true := by simp; omega
    have HO := hidden (l_deep hm hst hi (by omega) (by omega))
    have HR := hidden h
    clear h hm
    go_enter Try.func22, Try.ntmps22
    go_wp2_with fail
    exact ⟨rfl, Or.inr ⟨6, i, rfl, ⟨_, _, _, HR.out⟩, HO.out⟩⟩
  · have hz : ((d : Int) == 512) = false := by simp; omega
    have hd51 : d < 512 := by omega
    have fr := h.free 2
    have h2 : RS B R n w0 v f (w.setCell ⟨R, 2, none⟩ (.int .i64 ((d : Int) + 1))) tv i (d + 1) T := by
      have := h.deep (d' := d + 1) (by omega)
      simpa using this
    have cs := sign_yes ⟨tv, h2⟩ 1 (by decide) ⟨#[91, 123]⟩ (by rw [see_2 ⟨tv, h2⟩]; simp [hi, hb])
    have HM := hidden (l_open hm hst hi (by omega) (by omega))
    rw [hb] at HM
    have Hd := hidden hd
    clear h h2 hm hb hd hst
    go_enter Try.func22, Try.ntmps22
    go_wp2_with fail
    refine cs.mono ?_
    rintro e w2 ⟨rfl, j, hk, h2⟩
    have HC := hidden (b_skip (by decide) HM.out hk)
    have Hk := hidden hk
    have hij : i < j := by have := hk.1; omega
    have hr2 := h2
    have cse := sees_any h2 ⟨#[93]⟩
    clear cs hk h2 HM c2 fr hz
    cases hcl : see f n j ⟨#[93]⟩ with
    | true =>
      rw [hcl] at cse
      have HS := hidden hcl
      rw [see_1 hr2] at hcl
      simp at hcl
      have HCL := hidden (l_close HC.out (by decide) hcl.1 (by have := hcl.2; omega))
      clear hr2 hcl HC
      go_wp2_with fail
      refine cse.mono ?_
      rintro e w3 ⟨rfl, h3⟩
      have HR := hidden h3
      have hcl : see f n j ⟨#[93]⟩ = true := HS.out
      clear cse h3 HS
      generalize hT8 : T ++ [(1, i, 1)] = T8 at *
      clear hT8
      go_wp2_with fail
      have cs := sign_yes HR.out 2 (by decide) _ hcl
      clear HR hcl
      go_wp2_with fail
      refine cs.mono ?_
      rintro e w8 ⟨rfl, j8, hk8, tv8, h8⟩
      have c28 : w8.cell? ⟨R, 2, none⟩ = some (.int .i64 ((d : Int) + 1)) := by have := h8.c2; rw [this]; congr
      have fr8 := h8.free 2
      have H8 : Hid (RS B R n w0 v f (w8.setCell ⟨R, 2, none⟩ (.int .i64 (d : Nat))) tv8 j8 d (T8 ++ [(2, j, 1)])) := h8.deep (d' := d) (by omega)
      have HK8 := hidden hk8
      have HC8 := hidden (b_skip (by decide) HCL.out hk8)
      clear cs hk8 h8 HCL
      go_wp2_with fail
      go_end0
      refine Or.inl ⟨rfl, j8, _, ?_, HK8.out.2.2.2, ⟨tv8, ?_⟩, HC8.out⟩
      · have := HK8.out.1; omega
      · have := H8.out; simpa using this
    | false =>
      rw [hcl] at cse
      rw [see_1 hr2] at hcl
      have Hcl : Hid (j < n → f j ≠ 93) := fun q => by simpa [q] using hcl
      clear hr2 hcl
      go_wp2_with fail
      refine cse.mono ?_
      rintro e w3 ⟨rfl, h3⟩
      have ce := HE.out j hij w3 (d + 1) _ o (91 :: S) 1 h3 (by rw [List.length_cons, Hd.out]) (Or.inl rfl) HC.out (fun q => ⟨Hk.out.2.2.2 q, fun _ => Hcl.out q⟩)
      clear cse h3 HC Hcl Hk
      go_wp2_with fail
      refine ce.mono ?_
      clear ce
      rintro e w4 hD
      rcases hD with ⟨rfl, j4, T4, hj4, hn4, h4, hm4⟩ | ⟨x, j4, rfl, hx, ho⟩
      · have HM4 := hidden hm4
        have HN4 := hidden hn4
        have H4 := hidden h4
        clear hm4 hn4 h4
        go_wp2_with fail
        go_loopw [] (fun wr => ∃ j T, i < j ∧ (j < n → isB (f j) = false) ∧ Rd B R n w0 v f wr j (d + 1) T ∧ Cv f n o 5 (91 :: S) T false j) (fun wr => n - atOf R wr)
        case atStart => exact ⟨j4, T4, by omega, HN4.out, H4.out, HM4.out⟩
        case round =>
          clear hj4 HM4 HN4 H4 hij
          obtain ⟨j, T8, hij, hnb, hr, hm⟩ := hrel
          have Hnb := hidden hnb
          have HM := hidden hm
          have Hat := hidden hr.at
          have cse := sees_any hr ⟨#[44]⟩
          have hr2 := hr
          clear hnb hm hr
          cases hcm : see f n j ⟨#[44]⟩ with
          | true =>
            rw [hcm] at cse
            have HS := hidden hcm
            rw [see_1 hr2] at hcm
            simp at hcm
            have HM2 := hidden (l_comma HM.out hcm.1 hcm.2)
            have Hjn := hidden hcm.1
            clear hr2 hcm HM
            go_wp2_with fail
            refine cse.mono ?_
            rintro e w5 ⟨rfl, h5⟩
            have cs := sign_yes h5 3 (by decide) _ HS.out
            clear cse h5 HS
            go_wp2_with fail
            refine cs.mono ?_
            rintro e w6 ⟨rfl, j6, hk6, h6⟩
            have HC6 := hidden (b_skip (by decide) HM2.out hk6)
            have hjj : i < j6 := by have := hk6.1; omega
            have Hjj : Hid (j < j6) := by have := hk6.1; unfold Hid; omega
            have ce := HE.out j6 hjj w6 (d + 1) _ o (91 :: S) 0 h6 (by rw [List.length_cons, Hd.out]) (Or.inr rfl) HC6.out (fun q => ⟨hk6.2.2.2 q, fun e => by cases e⟩)
            clear cs hk6 h6 HC6 HM2
            go_wp2_with fail
            refine ce.mono ?_
            clear ce
            rintro e w7 hD
            rcases hD with ⟨rfl, j7, T7, hj7, hn7, h7, hm7⟩ | ⟨x, j7, rfl, hx, ho⟩
            · have HM7 := hidden hm7
              have HN7 := hidden hn7
              have H7 := hidden h7
              have hi7 : i < j7 := by omega
              have Hi7 : Hid (j < j7) := by have := Hjj.out; unfold Hid; omega
              clear hm7 hn7 h7 hj7 hjj
              go_wp2_with fail
              go_roundw
              case rel => exact ⟨j7, T7, hi7, HN7.out, H7.out, HM7.out⟩
              case measure => rw [H7.out.at, Hat.out]; have := Hjn.out; have := Hi7.out; omega
            · have HX := hidden hx
              have HO := hidden ho
              clear hx ho
              go_wp2_with fail
              exact ⟨rfl, Or.inr ⟨x, j7, rfl, HX.out, HO.out⟩⟩
          | false =>
            rw [hcm] at cse
            rw [see_1 hr2] at hcm
            have Hcm : Hid (j < n → f j ≠ 44) := fun q => by simpa [q] using hcm
            clear hcm
            cases hcl : see f n j ⟨#[93]⟩ with
            | true =>
              have HS := hidden hcl
              rw [see_1 hr2] at hcl
              simp at hcl
              have HCL := hidden (l_close HM.out (by decide) hcl.1 (by have := hcl.2; omega))
              clear hr2 hcl HM Hcm
              go_wp2_with fail
              refine cse.mono ?_
              rintro e w5 ⟨rfl, h5⟩
              have HR := hidden h5
              have hcl : see f n j ⟨#[93]⟩ = true := HS.out
              clear cse h5 HS
              go_wp2_with fail
              have cs := sign_yes HR.out 2 (by decide) _ hcl
              clear HR hcl
              go_wp2_with fail
              refine cs.mono ?_
              rintro e w8 ⟨rfl, j8, hk8, tv8, h8⟩
              have c28 : w8.cell? ⟨R, 2, none⟩ = some (.int .i64 ((d : Int) + 1)) := by have := h8.c2; rw [this]; congr
              have fr8 := h8.free 2
              have H8 : Hid (RS B R n w0 v f (w8.setCell ⟨R, 2, none⟩ (.int .i64 (d : Nat))) tv8 j8 d (T8 ++ [(2, j, 1)])) := h8.deep (d' := d) (by omega)
              have HK8 := hidden hk8
              have HC8 := hidden (b_skip (by decide) HCL.out hk8)
              clear cs hk8 h8 HCL
              go_wp2_with fail
              go_end0
              refine Or.inl ⟨rfl, j8, _, ?_, HK8.out.2.2.2, ⟨tv8, ?_⟩, HC8.out⟩
              · have := HK8.out.1; omega
              · have := H8.out; simpa using this
            | false =>
              have HS := hidden hcl
              rw [see_1 hr2] at hcl
              have Hcl : Hid (j < n → f j ≠ 93) := fun q => by simpa [q] using hcl
              have HO : Hid (o = ([], j, 5)) := by
                by_cases q : j < n
                · exact l_bad HM.out q (Hnb.out q) (Hcm.out q) (by have := Hcl.out q; omega)
                · have q2 := hr2.hi
                  obtain rfl : j = n := by omega
                  exact l_end HM.out
              clear hr2 hcl HM Hcm Hcl
              go_wp2_with fail
              refine cse.mono ?_
              rintro e w5 ⟨rfl, h5⟩
              have cs := sign_no h5 2 _ HS.out
              clear cse h5 HS
              go_wp2_with fail
              refine cs.mono ?_
              rintro e w6 ⟨rfl, h6⟩
              have H6 := hidden h6
              clear cs h6
              go_wp2_with fail
              exact ⟨rfl, Or.inr ⟨5, j, rfl, H6.out.x, HO.out⟩⟩
      · have HX := hidden hx
        have HO := hidden ho
        clear hx ho
        go_wp2_with fail
        exact ⟨rfl, Or.inr ⟨x, j4, rfl, HX.out, HO.out⟩⟩
set_option maxHeartbeats 4000000 in
theorem list_br {o : Res} {S : List Nat} {st : Nat} (h : Rd B R n w0 v f w i d T) (hd : d = S.length) (hst : st = 0 ∨ st = 1) (hi : i < n) (hb : f i = 123) (hm : Cv f n o st S T false i) (hE : ∀ i', i < i' → El B R n w0 v f 23 2 3 125 i') :
    Calls Try.prog 22 #[.pointer (some ⟨R, 0, none⟩), .string ⟨#[125]⟩, .func (.func 23) #[.pointer (some ⟨R, 0, none⟩)] #[]] w (Done B R n w0 v f o d i 5 S) := by
  obtain ⟨tv, h⟩ := h
  have c2 := h.c2
  have hd5 := h.hd
  have HE := hidden hE
  clear hE
  by_cases h5 : d = 512
  · have hz : ((d : Int) == 512) = true := by simp; omega
    have HO := hidden (l_deep hm hst hi (by omega) (by omega))
    have HR := hidden h
    clear h hm
    go_enter Try.func22, Try.ntmps22
    go_wp2_with fail
    exact ⟨rfl, Or.inr ⟨6, i, rfl, ⟨_, _, _, HR.out⟩, HO.out⟩⟩
  · have hz : ((d : Int) == 512) = false := by simp; omega
    have hd51 : d < 512 := by omega
    have fr := h.free 2
    have h2 : RS B R n w0 v f (w.setCell ⟨R, 2, none⟩ (.int .i64 ((d : Int) + 1))) tv i (d + 1) T := by
      have := h.deep (d' := d + 1) (by omega)
      simpa using this
    have cs := sign_yes ⟨tv, h2⟩ 1 (by decide) ⟨#[91, 123]⟩ (by rw [see_2 ⟨tv, h2⟩]; simp [hi, hb])
    have HM := hidden (l_open hm hst hi (by omega) (by omega))
    rw [hb] at HM
    have Hd := hidden hd
    clear h h2 hm hb hd hst
    go_enter Try.func22, Try.ntmps22
    go_wp2_with fail
    refine cs.mono ?_
    rintro e w2 ⟨rfl, j, hk, h2⟩
    have HC := hidden (b_skip (by decide) HM.out hk)
    have Hk := hidden hk
    have hij : i < j := by have := hk.1; omega
    have hr2 := h2
    have cse := sees_any h2 ⟨#[125]⟩
    clear cs hk h2 HM c2 fr hz
    cases hcl : see f n j ⟨#[125]⟩ with
    | true =>
      rw [hcl] at cse
      have HS := hidden hcl
      rw [see_1 hr2] at hcl
      simp at hcl
      have HCL := hidden (l_close HC.out (by decide) hcl.1 (by have := hcl.2; omega))
      clear hr2 hcl HC
      go_wp2_with fail
      refine cse.mono ?_
      rintro e w3 ⟨rfl, h3⟩
      have HR := hidden h3
      have hcl : see f n j ⟨#[125]⟩ = true := HS.out
      clear cse h3 HS
      generalize hT8 : T ++ [(1, i, 1)] = T8 at *
      clear hT8
      go_wp2_with fail
      have cs := sign_yes HR.out 2 (by decide) _ hcl
      clear HR hcl
      go_wp2_with fail
      refine cs.mono ?_
      rintro e w8 ⟨rfl, j8, hk8, tv8, h8⟩
      have c28 : w8.cell? ⟨R, 2, none⟩ = some (.int .i64 ((d : Int) + 1)) := by have := h8.c2; rw [this]; congr
      have fr8 := h8.free 2
      have H8 : Hid (RS B R n w0 v f (w8.setCell ⟨R, 2, none⟩ (.int .i64 (d : Nat))) tv8 j8 d (T8 ++ [(2, j, 1)])) := h8.deep (d' := d) (by omega)
      have HK8 := hidden hk8
      have HC8 := hidden (b_skip (by decide) HCL.out hk8)
      clear cs hk8 h8 HCL
      go_wp2_with fail
      go_end0
      refine Or.inl ⟨rfl, j8, _, ?_, HK8.out.2.2.2, ⟨tv8, ?_⟩, HC8.out⟩
      · have := HK8.out.1; omega
      · have := H8.out; simpa using this
    | false =>
      rw [hcl] at cse
      rw [see_1 hr2] at hcl
      have Hcl : Hid (j < n → f j ≠ 125) := fun q => by simpa [q] using hcl
      clear hr2 hcl
      go_wp2_with fail
      refine cse.mono ?_
      rintro e w3 ⟨rfl, h3⟩
      have ce := HE.out j hij w3 (d + 1) _ o (123 :: S) 2 h3 (by rw [List.length_cons, Hd.out]) (Or.inl rfl) HC.out (fun q => ⟨Hk.out.2.2.2 q, fun _ => Hcl.out q⟩)
      clear cse h3 HC Hcl Hk
      go_wp2_with fail
      refine ce.mono ?_
      clear ce
      rintro e w4 hD
      rcases hD with ⟨rfl, j4, T4, hj4, hn4, h4, hm4⟩ | ⟨x, j4, rfl, hx, ho⟩
      · have HM4 := hidden hm4
        have HN4 := hidden hn4
        have H4 := hidden h4
        clear hm4 hn4 h4
        go_wp2_with fail
        go_loopw [] (fun wr => ∃ j T, i < j ∧ (j < n → isB (f j) = false) ∧ Rd B R n w0 v f wr j (d + 1) T ∧ Cv f n o 5 (123 :: S) T false j) (fun wr => n - atOf R wr)
        case atStart => exact ⟨j4, T4, by omega, HN4.out, H4.out, HM4.out⟩
        case round =>
          clear hj4 HM4 HN4 H4 hij
          obtain ⟨j, T8, hij, hnb, hr, hm⟩ := hrel
          have Hnb := hidden hnb
          have HM := hidden hm
          have Hat := hidden hr.at
          have cse := sees_any hr ⟨#[44]⟩
          have hr2 := hr
          clear hnb hm hr
          cases hcm : see f n j ⟨#[44]⟩ with
          | true =>
            rw [hcm] at cse
            have HS := hidden hcm
            rw [see_1 hr2] at hcm
            simp at hcm
            have HM2 := hidden (l_comma HM.out hcm.1 hcm.2)
            have Hjn := hidden hcm.1
            clear hr2 hcm HM
            go_wp2_with fail
            refine cse.mono ?_
            rintro e w5 ⟨rfl, h5⟩
            have cs := sign_yes h5 3 (by decide) _ HS.out
            clear cse h5 HS
            go_wp2_with fail
            refine cs.mono ?_
            rintro e w6 ⟨rfl, j6, hk6, h6⟩
            have HC6 := hidden (b_skip (by decide) HM2.out hk6)
            have hjj : i < j6 := by have := hk6.1; omega
            have Hjj : Hid (j < j6) := by have := hk6.1; unfold Hid; omega
            have ce := HE.out j6 hjj w6 (d + 1) _ o (123 :: S) 3 h6 (by rw [List.length_cons, Hd.out]) (Or.inr rfl) HC6.out (fun q => ⟨hk6.2.2.2 q, fun e => by cases e⟩)
            clear cs hk6 h6 HC6 HM2
            go_wp2_with fail
            refine ce.mono ?_
            clear ce
            rintro e w7 hD
            rcases hD with ⟨rfl, j7, T7, hj7, hn7, h7, hm7⟩ | ⟨x, j7, rfl, hx, ho⟩
            · have HM7 := hidden hm7
              have HN7 := hidden hn7
              have H7 := hidden h7
              have hi7 : i < j7 := by omega
              have Hi7 : Hid (j < j7) := by have := Hjj.out; unfold Hid; omega
              clear hm7 hn7 h7 hj7 hjj
              go_wp2_with fail
              go_roundw
              case rel => exact ⟨j7, T7, hi7, HN7.out, H7.out, HM7.out⟩
              case measure => rw [H7.out.at, Hat.out]; have := Hjn.out; have := Hi7.out; omega
            · have HX := hidden hx
              have HO := hidden ho
              clear hx ho
              go_wp2_with fail
              exact ⟨rfl, Or.inr ⟨x, j7, rfl, HX.out, HO.out⟩⟩
          | false =>
            rw [hcm] at cse
            rw [see_1 hr2] at hcm
            have Hcm : Hid (j < n → f j ≠ 44) := fun q => by simpa [q] using hcm
            clear hcm
            cases hcl : see f n j ⟨#[125]⟩ with
            | true =>
              have HS := hidden hcl
              rw [see_1 hr2] at hcl
              simp at hcl
              have HCL := hidden (l_close HM.out (by decide) hcl.1 (by have := hcl.2; omega))
              clear hr2 hcl HM Hcm
              go_wp2_with fail
              refine cse.mono ?_
              rintro e w5 ⟨rfl, h5⟩
              have HR := hidden h5
              have hcl : see f n j ⟨#[125]⟩ = true := HS.out
              clear cse h5 HS
              go_wp2_with fail
              have cs := sign_yes HR.out 2 (by decide) _ hcl
              clear HR hcl
              go_wp2_with fail
              refine cs.mono ?_
              rintro e w8 ⟨rfl, j8, hk8, tv8, h8⟩
              have c28 : w8.cell? ⟨R, 2, none⟩ = some (.int .i64 ((d : Int) + 1)) := by have := h8.c2; rw [this]; congr
              have fr8 := h8.free 2
              have H8 : Hid (RS B R n w0 v f (w8.setCell ⟨R, 2, none⟩ (.int .i64 (d : Nat))) tv8 j8 d (T8 ++ [(2, j, 1)])) := h8.deep (d' := d) (by omega)
              have HK8 := hidden hk8
              have HC8 := hidden (b_skip (by decide) HCL.out hk8)
              clear cs hk8 h8 HCL
              go_wp2_with fail
              go_end0
              refine Or.inl ⟨rfl, j8, _, ?_, HK8.out.2.2.2, ⟨tv8, ?_⟩, HC8.out⟩
              · have := HK8.out.1; omega
              · have := H8.out; simpa using this
            | false =>
              have HS := hidden hcl
              rw [see_1 hr2] at hcl
              have Hcl : Hid (j < n → f j ≠ 125) := fun q => by simpa [q] using hcl
              have HO : Hid (o = ([], j, 5)) := by
                by_cases q : j < n
                · exact l_bad HM.out q (Hnb.out q) (Hcm.out q) (by have := Hcl.out q; omega)
                · have q2 := hr2.hi
                  obtain rfl : j = n := by omega
                  exact l_end HM.out
              clear hr2 hcl HM Hcm Hcl
              go_wp2_with fail
              refine cse.mono ?_
              rintro e w5 ⟨rfl, h5⟩
              have cs := sign_no h5 2 _ HS.out
              clear cse h5 HS
              go_wp2_with fail
              refine cs.mono ?_
              rintro e w6 ⟨rfl, h6⟩
              have H6 := hidden h6
              clear cs h6
              go_wp2_with fail
              exact ⟨rfl, Or.inr ⟨5, j, rfl, H6.out.x, HO.out⟩⟩
      · have HX := hidden hx
        have HO := hidden ho
        clear hx ho
        go_wp2_with fail
        exact ⟨rfl, Or.inr ⟨x, j4, rfl, HX.out, HO.out⟩⟩
end Go.Proofs.PlatenJson
