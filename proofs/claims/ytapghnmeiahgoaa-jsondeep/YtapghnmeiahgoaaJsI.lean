/- What member and value of the reader come to: by the bytes that are left. -/
import Derived.Test.YtapghnmeiahgoaaJsH
namespace Go.Proofs.PlatenJson
open Go Go.RowKit
set_option linter.unusedVariables false
set_option maxRecDepth 100000
variable {B R n : Nat} {w0 : World} {v : Value} {f : Nat → Nat} {w : World} {i d : Nat} {T : List Tk}

set_option maxHeartbeats 2000000 in
theorem member_any (hV : ∀ i', i < i' → El B R n w0 v f 16 1 0 93 i') : El B R n w0 v f 23 2 3 125 i := by
  intro w d T o S st h hd hst hm hb
  have cq := quoted_any (o := o) (S := S) (nm := true) (st := 4) rfl h (fun q e => t_name hm hst q e) (fun q => by
    by_cases hi : i < n
    · exact name_bad hm hst hi (hb hi).1 (q hi) (hb hi).2
    · have := h.hi
      obtain rfl : i = n := by omega
      exact v_end hm (by omega))
  have HV := hidden hV
  have Hd := hidden hd
  clear h hd hst hm hb hV
  go_enter Try.func23, Try.ntmps23
  go_wp2_with fail
  refine cq.mono ?_
  clear cq
  rintro e w1 hD
  rcases hD with ⟨rfl, j, T1, hj, hn, h1, hm1⟩ | ⟨x, j, rfl, hx, ho⟩
  · cases hs : see f n j ⟨#[58]⟩ with
    | true =>
      have cs := sign_yes h1 4 (by decide) _ hs
      rw [see_1 h1] at hs
      simp at hs
      have HM := hidden (c_colon hm1 hs.1 hs.2)
      clear hs h1 hm1 hn
      go_wp2_with fail
      refine cs.mono ?_
      rintro e w2 ⟨rfl, j2, hk, h2⟩
      have hj2 : i < j2 := by have := hk.1; omega
      have cv := HV.out j2 hj2 w2 d _ o S 0 h2 Hd.out (Or.inr rfl) (b_skip (by decide) HM.out hk) (fun q => ⟨hk.2.2.2 q, fun e => by cases e⟩)
      clear cs h2 hk HM
      go_wp2_with fail
      refine cv.mono ?_
      clear cv
      rintro e w3 hD
      rcases hD with ⟨rfl, j3, T3, hj3, hn3, h3, hm3⟩ | ⟨x, j3, rfl, hx, ho⟩
      · have HM3 := hidden hm3
        have HN3 := hidden hn3
        have H3 := hidden h3
        clear hm3 hn3 h3
        go_wp2_with fail
        go_end0
        exact Or.inl ⟨rfl, j3, T3, by omega, HN3.out, H3.out, HM3.out⟩
      · have HX := hidden hx
        have HO := hidden ho
        clear hx ho
        go_wp2_with fail
        exact ⟨rfl, Or.inr ⟨x, j3, rfl, HX.out, HO.out⟩⟩
    | false =>
      have cs := sign_no h1 4 _ hs
      rw [see_1 h1] at hs
      have HO : Hid (o = ([], j, 5)) := by
        by_cases q : j < n
        · exact c_bad hm1 q (hn q) (by simpa [q] using hs)
        · have := h1.hi
          obtain rfl : j = n := by omega
          exact v_end hm1 (by decide)
      clear hs h1 hm1 hn
      go_wp2_with fail
      refine cs.mono ?_
      rintro e w2 ⟨rfl, h2⟩
      have H2 := hidden h2
      clear cs h2
      go_wp2_with fail
      exact ⟨rfl, Or.inr ⟨5, j, rfl, H2.out.x, HO.out⟩⟩
  · have HX := hidden hx
    have HO := hidden ho
    clear hx ho
    go_wp2_with fail
    exact ⟨rfl, Or.inr ⟨x, j, rfl, HX.out, HO.out⟩⟩

/-- What a part of value's gives, value gives. -/
theorem wdp0 {o : Res} {S : List Nat} {a : Nat} {L : List Nat} (hi : i < n) (hc : f i = a) (h : CurW f n o L S T i (i + 1)) : WdP f n o S T i (a :: L) 0 := by
  unfold WdP
  rw [if_pos rfl]
  exact ⟨⟨hi, hc⟩, h⟩
set_option maxHeartbeats 4000000 in
theorem value_step (hV : ∀ i', i < i' → El B R n w0 v f 16 1 0 93 i') : El B R n w0 v f 16 1 0 93 i := by
  intro w d T o S st h hd hst0 hm hb
  have hst : st = 0 ∨ st = 1 := hst0.symm
  have ca := ahead_any h
  have HH := hidden h.hi
  have hfj : f i < 256 := h.hf i
  have hah : ahd f n i = if i = n then 0 else f i := rfl
  have hlt : ∀ c, ahd f n i = c → c ≠ 0 → i < n ∧ f i = c := fun c e h0 => by
    have := HH.out
    rw [hah] at e
    by_cases q : i = n
    · rw [if_pos q] at e; omega
    · rw [if_neg q] at e; exact ⟨by omega, e⟩
  have Hv := hidden hV
  have Hd := hidden hd
  have Hst := hidden hst
  have Hm := hidden hm
  have Hb := hidden hb
  have Hlt := hidden hlt
  have Hah := hidden hah
  clear h hd hst hst0 hm hb hV hlt hah
  by_cases q1 : ahd f n i = 91
  · rw [q1] at ca
    obtain ⟨hi, hc⟩ := Hlt.out 91 q1 (by decide)
    clear q1
    go_enter Try.func16, Try.ntmps16
    go_wp2_with fail
    refine ca.mono ?_
    rintro e w2 ⟨rfl, h2⟩
    have cl := list_sq h2 Hd.out Hst.out hi hc Hm.out Hv.out
    clear ca h2 hi hc
    go_wp2_with fail
    refine cl.mono ?_
    clear cl
    rintro e w3 hD
    rcases hD with ⟨rfl, hD⟩ | ⟨x, j, rfl, hD⟩
    · have HD := hidden hD
      clear hD
      go_wp2_with fail
      go_end0
      exact Or.inl ⟨rfl, HD.out⟩
    · have HD := hidden hD
      clear hD
      go_wp2_with fail
      exact ⟨rfl, Or.inr ⟨x, j, rfl, HD.out⟩⟩
  by_cases q2 : ahd f n i = 123
  · rw [q2] at ca
    obtain ⟨hi, hc⟩ := Hlt.out 123 q2 (by decide)
    clear q2
    go_enter Try.func16, Try.ntmps16
    go_wp2_with fail
    refine ca.mono ?_
    rintro e w2 ⟨rfl, h2⟩
    have cl := list_br h2 Hd.out Hst.out hi hc Hm.out (fun i' hi' => member_any (fun i2 h2 => Hv.out i2 (by omega)))
    clear ca h2 hi hc
    go_wp2_with fail
    refine cl.mono ?_
    clear cl
    rintro e w3 hD
    rcases hD with ⟨rfl, hD⟩ | ⟨x, j, rfl, hD⟩
    · have HD := hidden hD
      clear hD
      go_wp2_with fail
      go_end0
      exact Or.inl ⟨rfl, HD.out⟩
    · have HD := hidden hD
      clear hD
      go_wp2_with fail
      exact ⟨rfl, Or.inr ⟨x, j, rfl, HD.out⟩⟩
  by_cases q3 : ahd f n i = 34
  · rw [q3] at ca
    obtain ⟨hi, hc⟩ := Hlt.out 34 q3 (by decide)
    clear q3
    go_enter Try.func16, Try.ntmps16
    go_wp2_with fail
    refine ca.mono ?_
    rintro e w2 ⟨rfl, h2⟩
    have cl := quoted_any (o := o) (S := S) (nm := false) (st := 5) rfl h2 (fun q e => t_open Hm.out Hst.out q e) (fun q => absurd hc (q hi))
    clear ca h2 hi hc
    go_wp2_with fail
    refine cl.mono ?_
    clear cl
    rintro e w3 hD
    rcases hD with ⟨rfl, hD⟩ | ⟨x, j, rfl, hD⟩
    · have HD := hidden hD
      clear hD
      go_wp2_with fail
      go_end0
      exact Or.inl ⟨rfl, HD.out⟩
    · have HD := hidden hD
      clear hD
      go_wp2_with fail
      exact ⟨rfl, Or.inr ⟨x, j, rfl, HD.out⟩⟩
  by_cases q4 : ahd f n i = 116
  · rw [q4] at ca
    obtain ⟨hi, hc⟩ := Hlt.out 116 q4 (by decide)
    clear q4
    go_enter Try.func16, Try.ntmps16
    go_wp2_with fail
    refine ca.mono ?_
    rintro e w2 ⟨rfl, h2⟩
    have cl := word_any ⟨#[116, 114, 117, 101]⟩ (by decide) (by decide) h2 (wdp0 hi hc (w_t Hm.out Hst.out hi hc))
    clear ca h2 hi hc
    go_wp2_with fail
    refine cl.mono ?_
    clear cl
    rintro e w3 hD
    rcases hD with ⟨rfl, hD⟩ | ⟨x, j, rfl, hD⟩
    · have HD := hidden hD
      clear hD
      go_wp2_with fail
      go_end0
      exact Or.inl ⟨rfl, HD.out⟩
    · have HD := hidden hD
      clear hD
      go_wp2_with fail
      exact ⟨rfl, Or.inr ⟨x, j, rfl, HD.out⟩⟩
  by_cases q5 : ahd f n i = 102
  · rw [q5] at ca
    obtain ⟨hi, hc⟩ := Hlt.out 102 q5 (by decide)
    clear q5
    go_enter Try.func16, Try.ntmps16
    go_wp2_with fail
    refine ca.mono ?_
    rintro e w2 ⟨rfl, h2⟩
    have cl := word_any ⟨#[102, 97, 108, 115, 101]⟩ (by decide) (by decide) h2 (wdp0 hi hc (w_f Hm.out Hst.out hi hc))
    clear ca h2 hi hc
    go_wp2_with fail
    refine cl.mono ?_
    clear cl
    rintro e w3 hD
    rcases hD with ⟨rfl, hD⟩ | ⟨x, j, rfl, hD⟩
    · have HD := hidden hD
      clear hD
      go_wp2_with fail
      go_end0
      exact Or.inl ⟨rfl, HD.out⟩
    · have HD := hidden hD
      clear hD
      go_wp2_with fail
      exact ⟨rfl, Or.inr ⟨x, j, rfl, HD.out⟩⟩
  by_cases q6 : ahd f n i = 110
  · rw [q6] at ca
    obtain ⟨hi, hc⟩ := Hlt.out 110 q6 (by decide)
    clear q6
    go_enter Try.func16, Try.ntmps16
    go_wp2_with fail
    refine ca.mono ?_
    rintro e w2 ⟨rfl, h2⟩
    have cl := word_any ⟨#[110, 117, 108, 108]⟩ (by decide) (by decide) h2 (wdp0 hi hc (w_n Hm.out Hst.out hi hc))
    clear ca h2 hi hc
    go_wp2_with fail
    refine cl.mono ?_
    clear cl
    rintro e w3 hD
    rcases hD with ⟨rfl, hD⟩ | ⟨x, j, rfl, hD⟩
    · have HD := hidden hD
      clear hD
      go_wp2_with fail
      go_end0
      exact Or.inl ⟨rfl, HD.out⟩
    · have HD := hidden hD
      clear hD
      go_wp2_with fail
      exact ⟨rfl, Or.inr ⟨x, j, rfl, HD.out⟩⟩
  have hno : i < n → isB (f i) = false ∧ (st = 1 → f i ≠ 93) ∧ (isV (f i) = true → isD (f i) = true ∨ f i = 45) := fun q => by
    refine ⟨(Hb.out q).1, (Hb.out q).2, fun hv => ?_⟩
    have e := Hah.out
    rw [if_neg (by omega)] at e
    rw [e] at q1 q2 q3 q4 q5 q6
    simp only [isV, Bool.or_eq_true, decide_eq_true_eq] at hv
    rcases hv with ((((((h | h) | h) | h) | h) | h) | h) | h
    · exact absurd h q2
    · exact absurd h q1
    · exact absurd h q3
    · exact Or.inr h
    · exact Or.inl h
    · exact absurd h q4
    · exact absurd h q5
    · exact absurd h q6
  have Hno := hidden hno
  clear hno
  have z1 : ((ahd f n i : Int) == 91) = false := by simp; omega
  have z2 : ((ahd f n i : Int) == 123) = false := by simp; omega
  have z3 : ((ahd f n i : Int) == 34) = false := by simp; omega
  have z4 : ((ahd f n i : Int) == 116) = false := by simp; omega
  have z5 : ((ahd f n i : Int) == 102) = false := by simp; omega
  have z6 : ((ahd f n i : Int) == 110) = false := by simp; omega
  clear q1 q2 q3 q4 q5 q6 Hlt Hah Hb
  generalize ahd f n i = c at *
  go_enter Try.func16, Try.ntmps16
  go_wp2_with fail
  refine ca.mono ?_
  rintro e w2 ⟨rfl, h2⟩
  have cl := number_any h2 Hst.out Hm.out Hno.out
  clear ca h2
  go_wp2_with fail
  refine cl.mono ?_
  clear cl
  rintro e w3 hD
  rcases hD with ⟨rfl, hD⟩ | ⟨x, j, rfl, hD⟩
  · have HD := hidden hD
    clear hD
    go_wp2_with fail
    go_end0
    exact Or.inl ⟨rfl, HD.out⟩
  · have HD := hidden hD
    clear hD
    go_wp2_with fail
    exact ⟨rfl, Or.inr ⟨x, j, rfl, HD.out⟩⟩
theorem value_far : ∀ (m i : Nat), n + 1 - i ≤ m → El B R n w0 v f 16 1 0 93 i
  | 0, i, h => fun w d T o S st hr => by have := hr.hi; omega
  | m + 1, i, h => value_step fun i' hi' => by
    by_cases q : n + 1 - i' ≤ m
    · exact value_far m i' q
    · exact absurd h (by omega)
theorem value_any : El B R n w0 v f 16 1 0 93 i := value_far _ i (Nat.le_refl _)
end Go.Proofs.PlatenJson
