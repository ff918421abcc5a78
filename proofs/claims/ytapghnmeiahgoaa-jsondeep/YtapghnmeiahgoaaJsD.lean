/- What sign, digits, escape of the reader come to. -/
import Derived.Test.YtapghnmeiahgoaaJsC
namespace Go.Proofs.PlatenJson
open Go Go.RowKit
set_option linter.unusedVariables false
set_option maxRecDepth 100000
variable {B R n : Nat} {w0 : World} {v : Value} {f : Nat → Nat} {w : World} {i d : Nat} {T : List Tk}

set_option maxHeartbeats 1000000 in
theorem sign_yes (h : Rd B R n w0 v f w i d T) (k : Nat) (hk : k < 256) (s : ByteArray) (hs : see f n i s = true) :
    Calls Try.prog 33 #[.pointer (some ⟨R, 0, none⟩), .int .u8 (k : Nat), .string s] w fun e w' => e = .returned (.tuple #[]) ∧ BlP B R n w0 v f (i + 1) d (T ++ [(k, i, 1)]) w' := by
  have cn := need_yes h s hs
  have hl := h.len
  obtain ⟨tv, h⟩ := h
  have c1 := h.c1
  have Hl := hidden hl
  clear h hs hl
  go_enter Try.func33, Try.ntmps33
  go_wp2_with fail
  refine cn.mono ?_
  rintro e w' ⟨rfl, h1⟩
  have ct := token_any h1 k i hk (Nat.le_succ _) (by have := Hl.out; omega)
  rw [show i + 1 - i = 1 by omega] at ct
  clear h1 cn c1
  go_wp2_with fail
  refine ct.mono ?_
  rintro e w' ⟨rfl, hb⟩
  have Hb := hidden hb
  clear hb ct
  go_wp2
  go_end0
  exact ⟨rfl, Hb.out⟩
set_option maxHeartbeats 1000000 in
theorem sign_no (h : Rd B R n w0 v f w i d T) (k : Nat) (s : ByteArray) (hs : see f n i s = false) :
    Calls Try.prog 33 #[.pointer (some ⟨R, 0, none⟩), .int .u8 (k : Nat), .string s] w fun e w' => e = Boom 5 ∧ Rd B R n w0 v f w' i d T := by
  have cn := need_no h s hs
  obtain ⟨tv, h⟩ := h
  have c1 := h.c1
  clear h hs
  go_enter Try.func33, Try.ntmps33
  go_wp2_with fail
  refine cn.mono ?_
  rintro e w' ⟨rfl, h1⟩
  have H1 := hidden h1
  clear h1 cn c1
  go_wp2
  exact ⟨rfl, rfl, H1.out⟩

def DgP (B R n : Nat) (w0 : World) (v : Value) (f : Nat → Nat) (i d : Nat) (T : List Tk) (w : World) : Prop := ∃ j, i < j ∧ j ≤ n ∧ (∀ k, i ≤ k → k < j → isD (f k) = true) ∧ (j < n → isD (f j) = false) ∧ Rd B R n w0 v f w j d T
set_option maxHeartbeats 1000000 in
theorem digits_yes (h : Rd B R n w0 v f w i d T) (hi : i < n) (hd : isD (f i) = true) :
    Calls Try.prog 37 #[.pointer (some ⟨R, 0, none⟩)] w fun e w' => e = .returned (.tuple #[]) ∧ DgP B R n w0 v f i d T w' := by
  have cn := need_yes h ⟨#[48, 49, 50, 51, 52, 53, 54, 55, 56, 57]⟩ (by rw [see_d h]; simp [hi, hd])
  have Hd := hidden hd
  clear h hi hd
  go_enter Try.func37, Try.ntmps37
  go_wp2_with fail
  refine cn.mono ?_
  rintro e w1 ⟨rfl, h1⟩
  have H1 := hidden h1
  clear h1 cn
  go_wp2_with fail
  go_loopw [] (fun wr => ∃ j, i < j ∧ (∀ k, i ≤ k → k < j → isD (f k) = true) ∧ Rd B R n w0 v f wr j d T) (fun wr => n - atOf R wr)
  case atStart => exact ⟨i + 1, Nat.lt_succ_self _, fun k h1 h2 => by (obtain rfl : k = i := by omega); exact Hd.out, H1.out⟩
  case round =>
    obtain ⟨j, hij, hall, hr⟩ := hrel
    have Hall := hidden hall
    have Hat := hidden hr.at
    cases hs : see f n j ⟨#[48, 49, 50, 51, 52, 53, 54, 55, 56, 57]⟩ with
    | true =>
      have ct := take_yes hr _ hs
      rw [see_d hr] at hs
      simp at hs
      have Hs := hidden hs
      clear hs hall hr
      go_wp2_with fail
      refine ct.mono ?_
      rintro e w1 ⟨rfl, h1⟩
      have H1 := hidden h1
      clear h1 ct
      go_wp2
      go_roundw
      case rel =>
        refine ⟨j + 1, by omega, fun k h1 h2 => ?_, H1.out⟩
        rcases Nat.lt_or_ge k j with q | q
        · exact Hall.out k h1 q
        · obtain rfl : k = j := by omega
          exact Hs.out.2
      case measure => rw [H1.out.at, Hat.out]; have := Hs.out.1; omega
    | false =>
      have ct := take_no hr _ hs
      rw [see_d hr] at hs
      have Hs : Hid (j < n → isD (f j) = false) := fun q => by simpa [q] using hs
      have Hn := hidden hr.hi
      clear hs hall hr
      go_wp2_with fail
      refine ct.mono ?_
      rintro e w1 ⟨rfl, h1⟩
      have H1 := hidden h1
      clear h1 ct
      go_wp2
      go_end0
      exact ⟨rfl, j, hij, Hn.out, Hall.out, Hs.out, H1.out⟩
set_option maxHeartbeats 1000000 in
theorem digits_no (h : Rd B R n w0 v f w i d T) (hd : i < n → isD (f i) = false) :
    Calls Try.prog 37 #[.pointer (some ⟨R, 0, none⟩)] w fun e w' => e = Boom 5 ∧ Rd B R n w0 v f w' i d T := by
  have cn := need_no h ⟨#[48, 49, 50, 51, 52, 53, 54, 55, 56, 57]⟩ (by
    rw [see_d h]
    by_cases hi : i < n
    · simp [hd hi]
    · simp [hi])
  clear h hd
  go_enter Try.func37, Try.ntmps37
  go_wp2_with fail
  refine cn.mono ?_
  rintro e w1 ⟨rfl, h1⟩
  have H1 := hidden h1
  clear h1 cn
  go_wp2
  exact ⟨rfl, rfl, H1.out⟩

/-- An escape is passed, or not. -/
def EsP (B R n : Nat) (w0 : World) (v : Value) (f : Nat → Nat) (i d : Nat) (T : List Tk) (o : Res) (S : List Nat) (T' : List Tk) (nm : Bool) (fr : Nat) (e : Ending) (w' : World) : Prop :=
  (e = .returned (.tuple #[]) ∧ ∃ j, i < j ∧ Rd B R n w0 v f w' j d T ∧ Cur f n o 6 S T' nm fr j) ∨ (e = Boom 5 ∧ ∃ j, Rd B R n w0 v f w' j d T ∧ o = ([], j, 5))
def HxP (f : Nat → Nat) (n : Nat) (o : Res) (S : List Nat) (T' : List Tk) (nm : Bool) (fr k j : Nat) : Prop := if k = 4 then Cur f n o 6 S T' nm fr j else CurH f n o (4 - k) S T' nm fr j
set_option maxHeartbeats 2000000 in
theorem escape_any {o : Res} {S : List Nat} {T' : List Tk} {nm : Bool} {fr : Nat} (h : Rd B R n w0 v f w i d T) (hi : i < n) (hc : f i = 92) (hm : Cur f n o 6 S T' nm fr i) :
    Calls Try.prog 35 #[.pointer (some ⟨R, 0, none⟩)] w (EsP B R n w0 v f i d T o S T' nm fr) := by
  have cn := need_yes h ⟨#[92]⟩ (by rw [see_1 h]; simp [hi, hc])
  have HM := hidden (t_esc hm hi hc)
  clear h hi hc hm
  go_enter Try.func35, Try.ntmps35
  go_wp2_with fail
  refine cn.mono ?_
  rintro e w1 ⟨rfl, h1⟩
  clear cn
  cases hs : see f n (i + 1) ⟨#[117]⟩ with
  | true =>
    have ct := take_yes h1 _ hs
    rw [see_1 h1] at hs
    simp at hs
    have HM2 := hidden (e_u HM.out hs.1 hs.2)
    clear h1 hs HM
    go_wp2_with fail
    refine ct.mono ?_
    rintro e w2 ⟨rfl, h2⟩
    have H2 := hidden h2
    clear ct h2
    go_wp2_with fail
    go_loopw [9] (fun x wr => ∃ k j : Nat, k ≤ 4 ∧ x = .int .i64 (k : Nat) ∧ i < j ∧ Rd B R n w0 v f wr j d T ∧ HxP f n o S T' nm fr k j) (fun x _ => 4 - (intOf x).toNat)
    case atStart => exact ⟨0, _, by omega, rfl, by omega, H2.out, by rw [HxP, if_neg (by decide)]; exact HM2.out⟩
    case round =>
      obtain ⟨k, j, hk, rfl, hij, hr, hx⟩ := hrel
      clear HM2 H2
      by_cases hlt : k < 4
      · have hkz : (k : Int) < 4 := by omega
        unfold HxP at hx
        rw [if_neg (by omega)] at hx
        cases hs : see f n j ⟨#[48, 49, 50, 51, 52, 53, 54, 55, 56, 57, 97, 98, 99, 100, 101, 102, 65, 66, 67, 68, 69, 70]⟩ with
        | true =>
          have cn := need_yes hr _ hs
          rw [see_h hr] at hs
          simp at hs
          have HX : Hid (HxP f n o S T' nm fr (k + 1) (j + 1)) := by
            unfold HxP Hid
            by_cases h4 : k + 1 = 4
            · rw [if_pos h4]
              rw [show 4 - k = 1 by omega] at hx
              exact h_last hx hs.1 hs.2
            · rw [if_neg h4]
              rw [show 4 - k = (4 - (k + 2)) + 2 by omega] at hx
              rw [show 4 - (k + 1) = (4 - (k + 2)) + 1 by omega]
              exact h_one hx hs.1 hs.2
          clear hr hs hx
          go_wp2_with fail
          refine cn.mono ?_
          rintro e w3 ⟨rfl, h3⟩
          have H3 := hidden h3
          clear cn h3
          go_wp2
          go_roundw
          case rel => exact ⟨k + 1, j + 1, by omega, by go_num, by omega, H3.out, HX.out⟩
          case measure => simp [intOf]; omega
        | false =>
          have cn := need_no hr _ hs
          rw [see_h hr] at hs
          have HB : Hid (o = ([], j, 5)) := by
            by_cases q : j < n
            · exact h_bad hx q (by simpa [q] using hs)
            · have q2 := hr.hi
              obtain rfl : j = n := by omega
              exact h_end hx
          clear hr hs hx
          go_wp2_with fail
          refine cn.mono ?_
          rintro e w3 ⟨rfl, h3⟩
          have H3 := hidden h3
          clear cn h3
          go_wp2
          exact ⟨rfl, Or.inr ⟨rfl, _, H3.out, HB.out⟩⟩
      · obtain rfl : k = 4 := by omega
        unfold HxP at hx
        rw [if_pos rfl] at hx
        have HX := hidden hx
        have HR := hidden hr
        clear hx hr
        go_wp2
        go_end0
        exact Or.inl ⟨rfl, _, hij, HR.out, HX.out⟩
  | false =>
    have ct := take_no h1 _ hs
    rw [see_1 h1] at hs
    have Hu : Hid (i + 1 < n → f (i + 1) ≠ 117) := fun q => by simpa [q] using hs
    clear h1 hs
    go_wp2_with fail
    refine ct.mono ?_
    rintro e w2 ⟨rfl, h2⟩
    clear ct
    cases hs : see f n (i + 1) ⟨#[34, 92, 47, 98, 102, 110, 114, 116]⟩ with
    | true =>
      have cn := need_yes h2 _ hs
      rw [see_e h2] at hs
      simp at hs
      have HM2 := hidden (e_one HM.out hs.1 hs.2)
      clear h2 hs HM Hu
      go_wp2_with fail
      refine cn.mono ?_
      rintro e w3 ⟨rfl, h3⟩
      have H3 := hidden h3
      clear cn h3
      go_wp2
      go_end0
      exact Or.inl ⟨rfl, _, by omega, H3.out, HM2.out⟩
    | false =>
      have cn := need_no h2 _ hs
      rw [see_e h2] at hs
      have HB : Hid (o = ([], i + 1, 5)) := by
        by_cases q : i + 1 < n
        · exact e_bad HM.out q (by simpa [q] using hs) (Hu.out q)
        · have q2 := h2.hi
          obtain rfl : i + 1 = n := by omega
          exact n_bad_end HM.out rfl (by decide)
      clear h2 hs HM Hu
      go_wp2_with fail
      refine cn.mono ?_
      rintro e w3 ⟨rfl, h3⟩
      have H3 := hidden h3
      clear cn h3
      go_wp2
      exact ⟨rfl, Or.inr ⟨rfl, _, H3.out, HB.out⟩⟩
end Go.Proofs.PlatenJson
