/- What the document's digits, plain and part of a number come to. -/
import Derived.Test.YtgijplljpimbmaaGreatDoorFgE
namespace Go.Proofs.PlatenFigure
open Go.RowKit
set_option linter.unusedVariables false

/-- Just digits, one at least. -/
def rdig (l : List UInt8) : Bool := l.all dg && decide (0 < l.length)
def dotless (l : List UInt8) : Nat := (l.takeWhile fun c => decide (c.toNat ≠ 46)).length
def rplain (l : List UInt8) : Bool := if dotless l < l.length then rdig (l.take (dotless l)) && rdig (l.drop (dotless l + 1)) else rdig l
def rpart (c : UInt8) : Bool := dg c || decide (c.toNat = 46) || decide (c.toNat = 101) || decide (c.toNat = 69) || decide (c.toNat = 43) || decide (c.toNat = 45)

theorem all_false {p : UInt8 → Bool} {l : List UInt8} {k : Nat} (hk : k < l.length) (h : p (l.getD k 0) = false) : l.all p = false := by
  rw [Bool.eq_false_iff]
  intro h2
  have := List.all_eq_true.1 h2 l[k] (List.getElem_mem hk)
  rw [List.getD_eq_getElem?_getD, List.getElem?_eq_getElem hk] at h
  simp at h
  rw [h] at this
  cases this
theorem all_true {p : UInt8 → Bool} {l : List UInt8} (h : ∀ j, j < l.length → p (l.getD j 0) = true) : l.all p = true := by
  rw [List.all_eq_true]
  intro x hx
  obtain ⟨j, hj, rfl⟩ := List.getElem_of_mem hx
  have := h j hj
  rw [List.getD_eq_getElem?_getD, List.getElem?_eq_getElem hj] at this
  exact this

set_option maxHeartbeats 1000000 in
theorem rdig_any (s : ByteArray) (w : World) (hs : s.size ≤ 1000000) :
    Calls Tryz.prog 47 #[.string s] w fun e w' => e = .returned (.bool (rdig (L s))) ∧ w' = w := by
  have HX : Hid (rdig (L s) = ((L s).all dg && decide (0 < s.size))) := rfl
  go_enter Tryz.func47, Tryz.ntmps47
  go_wp2
  go_loop [3] (fun i => ∃ k : Nat, k ≤ s.size ∧ i = .int .i64 k ∧ ∀ j, j < k → dg ((L s).getD j 0) = true) (fun i => s.size - (intOf i).toNat)
  case atStart => exact ⟨0, Nat.zero_le _, rfl, fun j hj => absurd hj (Nat.not_lt_zero _)⟩
  case round =>
    obtain ⟨k, hk, rfl, hall⟩ := hrel
    by_cases hlt : k < s.size
    · have hg := get_L s k hlt
      cases hd : dg ((L s).getD k 0)
      · have HF : Hid (rdig (L s) = false) := by unfold Hid; rw [HX.out, all_false (l := L s) hlt hd, Bool.false_and]
        simp only [dg, decide_eq_false_iff_not, not_and, Nat.not_le] at hd
        clear hall HX
        generalize (L s).getD k 0 = c at *
        by_cases h1 : 48 ≤ c.toNat
        · have h2 := hd h1
          clear hd
          go_wp2
          go_ret
          exact ⟨by rw [HF.out]; rfl, rfl⟩
        · clear hd
          go_wp2
          go_ret
          exact ⟨by rw [HF.out]; rfl, rfl⟩
      · have HA : Hid (∀ j, j < k + 1 → dg ((L s).getD j 0) = true) := fun j hj => by
          by_cases e : j = k
          · subst e; exact hd
          · exact hall j (by omega)
        simp only [dg, decide_eq_true_eq] at hd
        obtain ⟨h1, h2⟩ := hd
        clear hall HX
        generalize (L s).getD k 0 = c at *
        go_wp2
        go_round
        case rel => exact ⟨k + 1, by omega, by go_num, HA.out⟩
        case measure => simp [intOf]; omega
    · obtain rfl : k = s.size := by omega
      have HF : Hid (rdig (L s) = decide (0 < s.size)) := by unfold Hid; rw [HX.out, all_true (l := L s) hall, Bool.true_and]
      clear hall HX
      by_cases h0 : 0 < s.size
      · have HG : Hid (rdig (L s) = true) := by unfold Hid; rw [HF.out]; simpa using h0
        go_wp2
        go_ret
        exact ⟨by rw [HG.out]; simp, rfl⟩
      · have HG : Hid (rdig (L s) = false) := by unfold Hid; rw [HF.out]; simpa using h0
        go_wp2
        go_ret
        exact ⟨by rw [HG.out]; simp, rfl⟩
set_option maxHeartbeats 1000000 in
theorem rplain_any (s : ByteArray) (w : World) (hs : s.size ≤ 1000000) :
    Calls Tryz.prog 48 #[.string s] w fun e w' => e = .returned (.bool (rplain (L s))) ∧ w' = w := by
  have HX : Hid (rplain (L s) = if dotless (L s) < s.size then rdig ((L s).take (dotless (L s))) && rdig ((L s).drop (dotless (L s) + 1)) else rdig (L s)) := rfl
  have c0 := rdig_any s w hs
  go_enter Tryz.func48, Tryz.ntmps48
  go_wp2_with fail
  go_loop [3] (fun i => ∃ k : Nat, k ≤ s.size ∧ i = .int .i64 k ∧ ∀ j, j < k → (decide (((L s).getD j 0).toNat ≠ 46)) = true) (fun i => s.size - (intOf i).toNat)
  case atStart => exact ⟨0, Nat.zero_le _, rfl, fun j hj => absurd hj (Nat.not_lt_zero _)⟩
  case round =>
    obtain ⟨k, hk, rfl, hall⟩ := hrel
    by_cases hlt : k < s.size
    · have hg := get_L s k hlt
      by_cases hd : ((L s).getD k 0).toNat = 46
      · have hdl : dotless (L s) = k := tw_len _ (L s) k hk hall (fun _ => by simpa using hd)
        have HF : Hid (rplain (L s) = (rdig ((L s).take k) && rdig ((L s).drop (k + 1)))) := by unfold Hid; rw [HX.out, hdl, if_pos hlt]
        have c1 := rdig_any (s.extract 0 k) w (by rw [ByteArray.size_extract]; omega)
        have c2 := rdig_any (s.extract (k + 1) s.size) w (by rw [size_from s (k + 1) (by omega)]; omega)
        rw [L_from] at c2
        rw [show L (s.extract 0 k) = (L s).take k by rw [L_ext]; simp] at c1
        clear hall HX hdl c0
        generalize (L s).getD k 0 = c at *
        generalize rdig ((L s).take k) = q1 at *
        generalize rdig ((L s).drop (k + 1)) = q2 at *
        cases q1
        · go_wp2_with fail
          refine c1.mono ?_
          rintro e w' ⟨rfl, rfl⟩
          go_wp2_with fail
          go_ret
          exact ⟨by rw [HF.out]; rfl, rfl⟩
        · go_wp2_with fail
          refine c1.mono ?_
          rintro e w' ⟨rfl, rfl⟩
          go_wp2_with fail
          refine c2.mono ?_
          rintro e w' ⟨rfl, rfl⟩
          go_wp2_with fail
          go_ret
          exact ⟨by rw [HF.out]; rfl, rfl⟩
      · have HA : Hid (∀ j, j < k + 1 → (decide (((L s).getD j 0).toNat ≠ 46)) = true) := fun j hj => by
          by_cases e : j = k
          · subst e; simpa using hd
          · exact hall j (by omega)
        clear hall HX c0
        generalize (L s).getD k 0 = c at *
        have h46 : (((c.toNat : Nat) : Int) == 46) = false := by simp; omega
        go_wp2_with fail
        go_round
        case rel => exact ⟨k + 1, by omega, by go_num, HA.out⟩
        case measure => simp [intOf]; omega
    · obtain rfl : k = s.size := by omega
      have hdl : dotless (L s) = s.size := tw_len _ (L s) _ hk hall (fun h => absurd h (Nat.lt_irrefl _))
      have HF : Hid (rplain (L s) = rdig (L s)) := by unfold Hid; rw [HX.out, hdl, if_neg (Nat.lt_irrefl _)]
      clear hall HX hdl
      generalize rdig (L s) = q at *
      go_wp2_with fail
      refine c0.mono ?_
      rintro e w' ⟨rfl, rfl⟩
      go_wp2_with fail
      go_ret
      exact ⟨by rw [HF.out]; rfl, rfl⟩

set_option maxHeartbeats 1000000 in
theorem rpart_any (c : UInt8) (w : World) : Calls Tryz.prog 36 #[.int .u8 (c.toNat : Nat)] w fun e w' => e = .returned (.bool (rpart c)) ∧ w' = w := by
  have hb := c.toNat_lt
  have HX : Hid (rpart c = (decide (48 ≤ c.toNat ∧ c.toNat ≤ 57) || decide (c.toNat = 46) || decide (c.toNat = 101) || decide (c.toNat = 69) || decide (c.toNat = 43) || decide (c.toNat = 45))) := rfl
  generalize rpart c = r at *
  generalize c.toNat = x at *
  by_cases h : (48 ≤ x ∧ x ≤ 57) ∨ x = 46 ∨ x = 101 ∨ x = 69 ∨ x = 43 ∨ x = 45
  · have HR : Hid (r = true) := by unfold Hid; rw [HX.out]; simp; omega
    clear HX
    rcases h with ⟨h1, h2⟩ | rfl | rfl | rfl | rfl | rfl
    all_goals
      go_enter Tryz.func36, Tryz.ntmps36
      go_wp2_with fail
      go_ret
      exact ⟨by rw [HR.out]; rfl, rfl⟩
  · have HR : Hid (r = false) := by unfold Hid; rw [HX.out]; simp; omega
    have g1 : ((x : Int) == 46) = false := by simp; omega
    have g2 : ((x : Int) == 101) = false := by simp; omega
    have g3 : ((x : Int) == 69) = false := by simp; omega
    have g4 : ((x : Int) == 43) = false := by simp; omega
    have g5 : ((x : Int) == 45) = false := by simp; omega
    clear HX
    by_cases h1 : 48 ≤ x
    · have h2 : ¬ x ≤ 57 := by omega
      have h3 : decide ((x : Int) ≤ 57) = false := by simp; omega
      clear h
      go_enter Tryz.func36, Tryz.ntmps36
      go_wp2_with fail
      go_ret
      exact ⟨by rw [HR.out]; rfl, rfl⟩
    · clear h
      go_enter Tryz.func36, Tryz.ntmps36
      go_wp2_with fail
      go_ret
      exact ⟨by rw [HR.out]; rfl, rfl⟩
end Go.Proofs.PlatenFigure
