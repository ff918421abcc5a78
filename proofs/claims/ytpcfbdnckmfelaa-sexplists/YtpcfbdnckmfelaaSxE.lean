/- What list and expression of the reader come to: by the bytes that are left. -/
import Derived.Test.YtpcfbdnckmfelaaSxD
namespace Go.Proofs.PlatenSexp
open Go Go.RowKit
set_option linter.unusedVariables false
set_option maxRecDepth 100000

/-- An expression can be read at byte i. -/
def El (B R n : Nat) (w0 : World) (v : Value) (f : Nat → Nat) (i : Nat) : Prop :=
  ∀ (w : World) (d : Nat) (T : List Tk) (o : Res) (st : Nat), Rd B R n w0 v f w i d T → (st = 0 ∨ st = 1) → Cv f n o st d T i → (i < n → isB (f i) = false ∧ (st = 1 → f i ≠ 41)) →
    Calls Try.prog 17 #[.pointer (some ⟨R, 0, none⟩)] w (Done B R n w0 v f o d i (aft d))
variable {B R n : Nat} {w0 : World} {v : Value} {f : Nat → Nat} {w : World} {i d : Nat} {T : List Tk}

set_option maxHeartbeats 4000000 in
theorem list_any {o : Res} {st : Nat} (h : Rd B R n w0 v f w i d T) (hi : i < n) (hb : f i = 40) (hst : st = 0 ∨ st = 1) (hm : Cv f n o st d T i) (hE : ∀ i', i < i' → El B R n w0 v f i') :
    Calls Try.prog 25 #[.pointer (some ⟨R, 0, none⟩)] w (Done B R n w0 v f o d i (aft d)) := by
  obtain ⟨tv, h⟩ := h
  have c2 := h.c2
  have hd5 := h.hd
  have HE := hidden hE
  clear hE
  by_cases h5 : d = 512
  · have hz : ((d : Int) == 512) = true := by simp; omega
    have HO := hidden (l_deep hm hst hi hb h5)
    have cf := fail_any ⟨tv, h⟩ 6
    clear h hm h5
    go_enter Try.func25, Try.ntmps25
    go_wp2_with fail
    refine cf.mono ?_
    rintro e w2 ⟨rfl, h2⟩
    have H2 := hidden h2
    clear cf h2
    go_wp2_with fail
    exact ⟨rfl, Or.inr ⟨6, i, rfl, H2.out.x, HO.out⟩⟩
  · have hz : ((d : Int) == 512) = false := by simp; omega
    have hd51 : d < 512 := by omega
    have fr := h.free 2
    have h2 : RS B R n w0 v f (w.setCell ⟨R, 2, none⟩ (.int .i64 ((d : Int) + 1))) tv i (d + 1) T := by
      have := h.deep (d' := d + 1) (by omega)
      simpa using this
    have cs := sign_yes ⟨tv, h2⟩ 1 (by decide) ⟨#[40]⟩ (by rw [see_1 ⟨tv, h2⟩]; simp [hi, hb])
    have HM := hidden (l_open hm hst hi hb h5)
    clear h h2 hm hb hst h5
    go_enter Try.func25, Try.ntmps25
    go_wp2_with fail
    refine cs.mono ?_
    rintro e w2 ⟨rfl, j, hk, h2⟩
    have HC := hidden (b_skip (by decide) HM.out hk)
    have Hk := hidden hk.2.2.2
    have hij : i < j := by have := hk.1; omega
    have H2 := hidden h2
    clear cs hk h2 HM c2 fr hz
    go_wp2_with fail
    go_loopw [] (fun wr => ∃ j T, i < j ∧ (j < n → isB (f j) = false) ∧ Rd B R n w0 v f wr j (d + 1) T ∧ Cv f n o 1 (d + 1) T j) (fun wr => n - atOf R wr)
    case atStart => exact ⟨j, _, hij, Hk.out, H2.out, HC.out⟩
    case round =>
      clear HC Hk H2 hij
      obtain ⟨j, T8, hij, hnb, hr, hm⟩ := hrel
      have Hnb := hidden hnb
      have HM := hidden hm
      have Hat := hidden hr.at
      have cse := sees_any hr ⟨#[41]⟩
      have hr2 := hr
      clear hnb hm hr
      cases hcl : see f n j ⟨#[41]⟩ with
      | true =>
        rw [hcl] at cse
        have HS := hidden hcl
        rw [see_1 hr2] at hcl
        simp at hcl
        have HCL := hidden (l_close HM.out hcl.1 hcl.2)
        rw [Nat.add_sub_cancel] at HCL
        clear hr2 hcl HM
        go_wp2_with fail
        refine cse.mono ?_
        rintro e w5 ⟨rfl, h5⟩
        have cs := sign_yes h5 2 (by decide) _ HS.out
        clear cse h5 HS
        go_wp2_with fail
        refine cs.mono ?_
        rintro e w8 ⟨rfl, j8, hk8, tv8, h8⟩
        have c28 : w8.cell? ⟨R, 2, none⟩ = some (.int .i64 ((d : Int) + 1)) := by have := h8.c2; rw [this]; congr
        have fr8 := h8.free 2
        have H8 : Hid (RS B R n w0 v f (w8.setCell ⟨R, 2, none⟩ (.int .i64 (d : Nat))) tv8 j8 d (T8 ++ [(2, j, 1)])) := h8.deep (d' := d) (by omega)
        have HK8 := hidden hk8
        have HC8 := hidden (b_skip (aft_ok d) HCL.out hk8)
        clear cs hk8 h8 HCL
        go_wp2_with fail
        go_end0
        refine Or.inl ⟨rfl, j8, _, ?_, HK8.out.2.2.2, ⟨tv8, ?_⟩, HC8.out⟩
        · have := HK8.out.1; omega
        · have := H8.out; simpa using this
      | false =>
        rw [hcl] at cse
        rw [see_1 hr2] at hcl
        have Hcl : Hid (j < n → f j ≠ 41) := fun q => by simpa [q] using hcl
        clear hr2 hcl
        go_wp2_with fail
        refine cse.mono ?_
        rintro e w3 ⟨rfl, h3⟩
        have Hin := hidden h3.hi
        have ce := HE.out j hij w3 (d + 1) _ o 1 h3 (Or.inr rfl) HM.out (fun q => ⟨Hnb.out q, fun _ => Hcl.out q⟩)
        rw [show aft (d + 1) = 1 from rfl] at ce
        clear cse h3 HM Hcl
        go_wp2_with fail
        refine ce.mono ?_
        clear ce
        rintro e w4 hD
        rcases hD with ⟨rfl, j4, T4, hj4, hn4, h4, hm4⟩ | ⟨x, j4, rfl, hx, ho⟩
        · have HM4 := hidden hm4
          have HN4 := hidden hn4
          have H4 := hidden h4
          have Hle := hidden h4.hi
          clear hm4 hn4 h4
          go_wp2_with fail
          go_roundw
          case rel => exact ⟨j4, T4, by omega, HN4.out, H4.out, HM4.out⟩
          case measure => rw [H4.out.at, Hat.out]; have := Hle.out; omega
        · have HX := hidden hx
          have HO := hidden ho
          clear hx ho
          go_wp2_with fail
          exact ⟨rfl, Or.inr ⟨x, j4, rfl, HX.out, HO.out⟩⟩

theorem done_mono {o : Res} {st i j : Nat} {e : Ending} {w : World} (hij : i ≤ j) (h : Done B R n w0 v f o d j st e w) : Done B R n w0 v f o d i st e w := by
  rcases h with ⟨rfl, j4, T4, hj4, h⟩ | h
  · exact Or.inl ⟨rfl, j4, T4, by omega, h⟩
  · exact Or.inr h
set_option maxHeartbeats 4000000 in
theorem exp_step (hE : ∀ i', i < i' → El B R n w0 v f i') : El B R n w0 v f i := by
  intro w d T o st h hst hm hb
  have HE := hidden hE
  have H := hidden h
  have HM := hidden hm
  have HB := hidden hb
  clear hE h hm hb
  go_enter Try.func17, Try.ntmps17
  go_wp2_with fail
  go_loopw [] (fun wr => ∃ j T st, i ≤ j ∧ Rd B R n w0 v f wr j d T ∧ (st = 0 ∨ st = 1) ∧ Cv f n o st d T j ∧ (j < n → isB (f j) = false ∧ (st = 1 → f j ≠ 41))) (fun wr => n - atOf R wr)
  case atStart => exact ⟨i, T, st, Nat.le_refl _, H.out, hst, HM.out, HB.out⟩
  case round =>
    clear H HM HB hst
    obtain ⟨j, T, st, hij, hr, hst, hm, hb⟩ := hrel
    have HM := hidden hm
    have HB := hidden hb
    have Hst := hidden hst
    have Hat := hidden hr.at
    have cs := sees_any hr ⟨#[39, 96, 44]⟩
    clear hm hb hst
    cases hq : see f n j ⟨#[39, 96, 44]⟩ with
    | true =>
      rw [hq] at cs
      rw [see_q3 hr] at hq
      simp at hq
      have Hjl := hidden hq.1
      have Hq : Hid (f j = 39 ∨ f j = 96 ∨ f j = 44) := by have := hq.2; unfold Hid; omega
      clear hr hq
      go_wp2_with fail
      refine cs.mono ?_
      rintro e w3 ⟨rfl, h3⟩
      have ck := quote_any h3 Hjl.out Hq.out Hst.out HM.out
      clear cs h3 HM HB Hst Hq
      go_wp2_with fail
      refine ck.mono ?_
      clear ck
      rintro e w4 hD
      rcases hD with ⟨rfl, j4, T4, hj4, hn4, h4, hm4⟩ | ⟨x, j4, rfl, hx, ho⟩
      · have HM4 := hidden hm4
        have HN4 := hidden hn4
        have H4 := hidden h4
        clear hm4 hn4 h4
        go_wp2_with fail
        go_roundw
        case rel => exact ⟨j4, T4, 0, by omega, H4.out, Or.inl rfl, HM4.out, fun q => ⟨HN4.out q, fun e => by cases e⟩⟩
        case measure => rw [H4.out.at, Hat.out]; have := Hjl.out; omega
      · have HX := hidden hx
        have HO := hidden ho
        clear hx ho
        go_wp2_with fail
        exact ⟨rfl, Or.inr ⟨x, j4, rfl, HX.out, HO.out⟩⟩
    | false =>
      rw [hq] at cs
      rw [see_q3 hr] at hq
      have Hq : Hid (j < n → f j ≠ 39 ∧ f j ≠ 96 ∧ f j ≠ 44) := fun q => by simp [q] at hq; omega
      clear hr hq
      go_wp2_with fail
      refine cs.mono ?_
      rintro e w3 ⟨rfl, h3⟩
      have cs := sees_any h3 ⟨#[40]⟩
      cases h40 : see f n j ⟨#[40]⟩ with
      | true =>
        rw [h40] at cs
        rw [see_1 h3] at h40
        simp at h40
        have H40 := hidden h40
        clear h3 h40
        go_wp2_with fail
        refine cs.mono ?_
        rintro e w4 ⟨rfl, h4⟩
        have ck := list_any h4 H40.out.1 H40.out.2 Hst.out HM.out (fun i' hi' => HE.out i' (by omega))
        clear cs h4 HM HB Hst Hq H40
        go_wp2_with fail
        refine ck.mono ?_
        clear ck
        rintro e w5 hD
        have HD := hidden (done_mono hij hD)
        rcases hD with ⟨rfl, hD⟩ | ⟨x, j, rfl, hD⟩
        · clear hD
          go_wp2_with fail
          go_end0
          exact HD.out
        · clear hD
          go_wp2_with fail
          exact ⟨rfl, HD.out⟩
      | false =>
        rw [h40] at cs
        rw [see_1 h3] at h40
        have H40 : Hid (j < n → f j ≠ 40) := fun q => by simpa [q] using h40
        clear h3 h40
        go_wp2_with fail
        refine cs.mono ?_
        rintro e w4 ⟨rfl, h4⟩
        have cs := sees_any h4 ⟨#[34]⟩
        cases h34 : see f n j ⟨#[34]⟩ with
        | true =>
          rw [h34] at cs
          rw [see_1 h4] at h34
          simp at h34
          have H34 := hidden h34
          clear h4 h34
          go_wp2_with fail
          refine cs.mono ?_
          rintro e w4 ⟨rfl, h4⟩
          have ck := quoted_any h4 H34.out.1 H34.out.2 Hst.out HM.out
          clear cs h4 HM HB Hst Hq H40 H34
          go_wp2_with fail
          refine ck.mono ?_
          clear ck
          rintro e w5 hD
          have HD := hidden (done_mono hij hD)
          rcases hD with ⟨rfl, hD⟩ | ⟨x, j, rfl, hD⟩
          · clear hD
            go_wp2_with fail
            go_end0
            exact HD.out
          · clear hD
            go_wp2_with fail
            exact ⟨rfl, HD.out⟩
        | false =>
          rw [h34] at cs
          rw [see_1 h4] at h34
          have H34 : Hid (j < n → f j ≠ 34) := fun q => by simpa [q] using h34
          clear h4 h34
          go_wp2_with fail
          refine cs.mono ?_
          rintro e w5 ⟨rfl, h5⟩
          have ck : Calls Try.prog 27 #[.pointer (some ⟨R, 0, none⟩)] w5 (Done B R n w0 v f o d j (aft d)) := by
            have no := fun hn => atom_no h5 Hst.out HM.out HB.out (fun q => by have := Hq.out q; have := H40.out q; have := H34.out q; omega) hn
            cases h64 : see f n j ⟨#[64]⟩ with
            | true => exact no (Or.inl h64)
            | false =>
              cases hw : wth f n j with
              | true => exact atom_yes h5 Hst.out HM.out h64 hw
              | false => exact no (Or.inr ⟨h64, hw⟩)
          clear cs h5 HM HB Hst Hq H40 H34
          go_wp2_with fail
          refine ck.mono ?_
          clear ck
          rintro e w5 hD
          have HD := hidden (done_mono hij hD)
          rcases hD with ⟨rfl, hD⟩ | ⟨x, j, rfl, hD⟩
          · clear hD
            go_wp2_with fail
            go_end0
            exact HD.out
          · clear hD
            go_wp2_with fail
            exact ⟨rfl, HD.out⟩
theorem exp_far : ∀ (m i : Nat), n + 1 - i ≤ m → El B R n w0 v f i
  | 0, i, h => fun w d T o st hr => by have := hr.hi; omega
  | m + 1, i, h => exp_step fun i' hi' => by
    by_cases q : n + 1 - i' ≤ m
    · exact exp_far m i' q
    · exact absurd h (by omega)
theorem exp_any : El B R n w0 v f i := exp_far _ i (Nat.le_refl _)
end Go.Proofs.PlatenSexp
