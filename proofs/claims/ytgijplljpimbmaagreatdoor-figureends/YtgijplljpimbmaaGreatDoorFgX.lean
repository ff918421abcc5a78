/- What the document's Is comes to. -/
import Derived.Test.YtgijplljpimbmaaGreatDoorFgW
import Derived.Deep.CutRange
namespace Go.Proofs.PlatenFigure
open Go.RowKit
set_option linter.unusedVariables false

def isE (c : UInt8) : Bool := decide (c.toNat = 101 ∨ c.toNat = 69)
def eidx (l : List UInt8) : Nat := (l.takeWhile fun c => !isE c).length
def sg1 (l : List UInt8) : Nat := if 0 < l.length ∧ ((l.getD 0 0).toNat = 45 ∨ (l.getD 0 0).toNat = 43) then 1 else 0
def rnum (t : List UInt8) : Bool :=
  if eidx t < t.length then rdig ((t.drop (eidx t + 1)).drop (sg1 (t.drop (eidx t + 1)))) && rplain (t.take (eidx t)) else rplain t
def ris (l : List UInt8) : Bool := (l.drop (sg1 l) == [110, 97, 110]) || (l.drop (sg1 l) == [105, 110, 102]) || rnum (l.drop (sg1 l))
theorem sg1_le (l : List UInt8) : sg1 l ≤ l.length ∧ sg1 l ≤ 1 := by
  unfold sg1
  split <;> omega
theorem extract_zero (s : ByteArray) : s.extract 0 s.size = s := by
  apply ByteArray.ext
  simp

set_option maxRecDepth 20000 in
set_option maxHeartbeats 4000000 in
theorem ris_any (s : ByteArray) (w : World) (hs : s.size ≤ 1000000) :
    Calls Tryz.prog 35 #[.string s] w fun e w' => e = .returned (.bool (ris (L s))) ∧ w' = w := by
  have hsg := sg1_le (L s)
  rw [len_L] at hsg
  have HX : Hid (ris (L s) = (((L s).drop (sg1 (L s)) == [110, 97, 110]) || ((L s).drop (sg1 (L s)) == [105, 110, 102]) || rnum ((L s).drop (sg1 (L s))))) := rfl
  generalize hris : ris (L s) = R at *
  have HRIS := hidden hris
  clear hris
  go_enter Tryz.func35, Tryz.ntmps35
  go_upto_region 1 with fail
  go_cut [17] from 5 to 16 (fun a wx => a = .bool (decide (sg1 (L s) = 1)) ∧ wx = w)
  case first =>
    by_cases h0 : 0 < s.size
    · have hg := get_L s 0 h0
      have HS : Hid (sg1 (L s) = if 0 < (L s).length ∧ (((L s).getD 0 0).toNat = 45 ∨ ((L s).getD 0 0).toNat = 43) then 1 else 0) := rfl
      generalize hsgg : sg1 (L s) = g at *
      clear hsgg
      have hl : 0 < (L s).length := h0
      generalize (L s).getD 0 0 = c at *
      by_cases h45 : c.toNat = 45
      · have HG : Hid (g = 1) := by unfold Hid; rw [HS.out, if_pos ⟨hl, .inl h45⟩]
        clear HS
        go_wp2_with fail
        go_meet
        exact ⟨by rw [HG.out]; rfl, rfl⟩
      · have h45b : (((c.toNat : Nat) : Int) == 45) = false := by simp; omega
        by_cases h43 : c.toNat = 43
        · have HG : Hid (g = 1) := by unfold Hid; rw [HS.out, if_pos ⟨hl, .inr h43⟩]
          clear HS
          go_wp2_with fail
          go_meet
          exact ⟨by rw [HG.out]; rfl, rfl⟩
        · have HG : Hid (g = 0) := by unfold Hid; rw [HS.out, if_neg (by omega)]
          have h43b : (((c.toNat : Nat) : Int) == 43) = false := by simp; omega
          clear HS
          go_wp2_with fail
          go_meet
          exact ⟨by rw [HG.out]; rfl, rfl⟩
    · have HG : Hid (sg1 (L s) = 0) := by unfold Hid; omega
      have he : s.size = 0 := by omega
      have hse : s = ByteArray.empty := by
        apply ByteArray.ext
        exact Array.eq_empty_of_size_eq_zero he
      generalize sg1 (L s) = g at *
      go_wp2_with fail
      go_meet
      exact ⟨by rw [HG.out]; rfl, rfl⟩
  case rest =>
  obtain ⟨rfl, rfl⟩ := hcut
  go_upto_if 17 with fail
  go_cut [0] from 5 to 19 (fun a wx => a = .string (s.extract (sg1 (L s)) s.size) ∧ wx = wc)
  case first =>
    by_cases h1 : sg1 (L s) = 1
    · rw [h1]
      go_wp2_with fail
      go_meet
      exact ⟨by rw [h1], rfl⟩
    · have h2 : sg1 (L s) = 0 := by omega
      rw [h2]
      go_wp2_with fail
      go_meet
      exact ⟨by rw [h2, extract_zero], rfl⟩
  case rest =>
  obtain ⟨rfl, rfl⟩ := hcut
  have hLt : L (s.extract (sg1 (L s)) s.size) = (L s).drop (sg1 (L s)) := L_from s _
  have hts : (s.extract (sg1 (L s)) s.size).size ≤ 1000000 := by rw [size_from s _ hsg.1]; omega
  rw [← hLt] at HX
  generalize s.extract (sg1 (L s)) s.size = t at *
  clear hLt hsg
  clear hs
  have HTL : Hid (t.toList = L t) := ByteArray.toList_eq t
  cases h1 : (t.toList == [110, 97, 110])
  · cases h2 : (t.toList == [105, 110, 102])
    · have HR : Hid (R = rnum (L t)) := by
        unfold Hid
        rw [HX.out, ← HTL.out, h1, h2]; rfl
      have HN : Hid (rnum (L t) = if eidx (L t) < t.size then rdig (((L t).drop (eidx (L t) + 1)).drop (sg1 ((L t).drop (eidx (L t) + 1)))) && rplain ((L t).take (eidx (L t))) else rplain (L t)) := rfl
      clear HX HTL
      have c0 := rplain_any t wc hts
      go_wp2_with fail
      go_loop [3] (fun i => ∃ k : Nat, k ≤ t.size ∧ i = .int .i64 k ∧ ∀ j, j < k → (!isE ((L t).getD j 0)) = true) (fun i => t.size - (intOf i).toNat)
      case atStart => exact ⟨0, Nat.zero_le _, rfl, fun j hj => absurd hj (Nat.not_lt_zero _)⟩
      case round =>
        obtain ⟨k, hk, rfl, hall⟩ := hrel
        by_cases hlt : k < t.size
        · have hg := get_L t k hlt
          cases hd : isE ((L t).getD k 0)
          · have HA : Hid (∀ j, j < k + 1 → (!isE ((L t).getD j 0)) = true) := fun j hj => by
              by_cases e : j = k
              · subst e; rw [hd]; rfl
              · exact hall j (by omega)
            simp only [isE, decide_eq_false_iff_not, not_or] at hd
            obtain ⟨q1, q2⟩ := hd
            clear hall c0 HN HR
            generalize (L t).getD k 0 = c at *
            have q1b : (((c.toNat : Nat) : Int) == 101) = false := by simp; omega
            have q2b : (((c.toNat : Nat) : Int) == 69) = false := by simp; omega
            go_wp2_with fail
            go_round
            case rel => exact ⟨k + 1, by omega, by go_num, HA.out⟩
            case measure => simp [intOf]; omega
          · have hei : eidx (L t) = k := tw_len _ (L t) k hk hall (fun _ => by rw [hd]; rfl)
            have hus : (t.extract (k + 1) t.size).size ≤ 1000000 := by rw [size_from t (k + 1) (by omega)]; omega
            have HF : Hid (R = (rdig ((L (t.extract (k + 1) t.size)).drop (sg1 (L (t.extract (k + 1) t.size)))) && rplain ((L t).take k))) := by
              unfold Hid; rw [HR.out, HN.out, hei, if_pos hlt, L_from]
            have c1 := rplain_any (t.extract 0 k) wc (by rw [ByteArray.size_extract]; omega)
            rw [show L (t.extract 0 k) = (L t).take k by rw [L_ext]; simp] at c1
            have HC1 := hidden c1
            clear hall c0 HN HR hei c1
            have hcc : ((L t).getD k 0).toNat = 101 ∨ ((L t).getD k 0).toNat = 69 := by simpa [isE] using hd
            clear hd
            generalize (L t).getD k 0 = c at *
            have hupto : True := trivial
            rcases hcc with hcc | hcc
            all_goals
              go_upto_region 10 with fail
              generalize t.extract (k + 1) t.size = u at *
              have hsg := sg1_le (L u)
              rw [len_L] at hsg
              clear hg
              go_cut [58] from 46 to 57 (fun a wx => a = .bool (decide (sg1 (L u) = 1)) ∧ wx = wc)
              case first =>
                by_cases h0 : 0 < u.size
                · have hg2 := get_L u 0 h0
                  have HS : Hid (sg1 (L u) = if 0 < (L u).length ∧ (((L u).getD 0 0).toNat = 45 ∨ ((L u).getD 0 0).toNat = 43) then 1 else 0) := rfl
                  generalize hsgg : sg1 (L u) = g at *
                  clear hsgg
                  have hl : 0 < (L u).length := h0
                  generalize (L u).getD 0 0 = c at *
                  by_cases h45 : c.toNat = 45
                  · have HG : Hid (g = 1) := by unfold Hid; rw [HS.out, if_pos ⟨hl, .inl h45⟩]
                    clear HS
                    go_wp2_with fail
                    go_meet
                    exact ⟨by rw [HG.out]; rfl, rfl⟩
                  · have h45b : (((c.toNat : Nat) : Int) == 45) = false := by simp; omega
                    by_cases h43 : c.toNat = 43
                    · have HG : Hid (g = 1) := by unfold Hid; rw [HS.out, if_pos ⟨hl, .inr h43⟩]
                      clear HS
                      go_wp2_with fail
                      go_meet
                      exact ⟨by rw [HG.out]; rfl, rfl⟩
                    · have HG : Hid (g = 0) := by unfold Hid; rw [HS.out, if_neg (by omega)]
                      have h43b : (((c.toNat : Nat) : Int) == 43) = false := by simp; omega
                      clear HS
                      go_wp2_with fail
                      go_meet
                      exact ⟨by rw [HG.out]; rfl, rfl⟩
                · have HG : Hid (sg1 (L u) = 0) := by unfold Hid; omega
                  have he : u.size = 0 := by omega
                  generalize sg1 (L u) = g at *
                  go_wp2_with fail
                  go_meet
                  exact ⟨by rw [HG.out]; rfl, rfl⟩
              case rest =>
              obtain ⟨rfl, rfl⟩ := hcut
              go_upto_if 58 with fail
              go_cut [4] from 58 to 60 (fun a wx => a = .string (u.extract (sg1 (L u)) u.size) ∧ wx = wc)
              case first =>
                by_cases h1 : sg1 (L u) = 1
                · rw [h1]
                  go_wp2_with fail
                  go_meet
                  exact ⟨by rw [h1], rfl⟩
                · have h2 : sg1 (L u) = 0 := by omega
                  rw [h2]
                  go_wp2_with fail
                  go_meet
                  exact ⟨by rw [h2, extract_zero], rfl⟩
              case rest =>
              obtain ⟨rfl, rfl⟩ := hcut
              have hLv : L (u.extract (sg1 (L u)) u.size) = (L u).drop (sg1 (L u)) := L_from u _
              have hvs : (u.extract (sg1 (L u)) u.size).size ≤ 1000000 := by rw [size_from u _ hsg.1]; omega
              rw [← hLv] at HF
              generalize u.extract (sg1 (L u)) u.size = v at *
              clear hLv hsg
              have c2 := rdig_any v wc hvs
              have c1 := HC1.out
              clear HC1
              generalize rdig (L v) = q1 at *
              generalize rplain ((L t).take k) = q2 at *
              apply_assumption
              cases q1
              · go_wp2_with fail
                refine c2.mono ?_
                rintro e w' ⟨rfl, rfl⟩
                go_wp2_with fail
                go_ret
                exact ⟨by rw [HF.out]; rfl, rfl⟩
              · go_wp2_with fail
                refine c2.mono ?_
                rintro e w' ⟨rfl, rfl⟩
                go_wp2_with fail
                refine c1.mono ?_
                rintro e w' ⟨rfl, rfl⟩
                go_wp2_with fail
                go_ret
                exact ⟨by rw [HF.out]; rfl, rfl⟩
        · obtain rfl : k = t.size := by omega
          have hei : eidx (L t) = t.size := tw_len _ (L t) _ hk hall (fun h => absurd h (Nat.lt_irrefl _))
          have HF : Hid (R = rplain (L t)) := by unfold Hid; rw [HR.out, HN.out, hei, if_neg (Nat.lt_irrefl _)]
          clear hall HN HR hei
          generalize rplain (L t) = q at *
          go_wp2_with fail
          refine c0.mono ?_
          rintro e w' ⟨rfl, rfl⟩
          go_wp2_with fail
          go_ret
          exact ⟨by rw [HF.out]; rfl, rfl⟩
    · have HR : Hid (R = true) := by
        unfold Hid
        rw [HX.out, ← HTL.out, h1, h2]; rfl
      go_wp2_with fail
      go_ret
      exact ⟨by rw [HR.out]; rfl, rfl⟩
  · have HR : Hid (R = true) := by
      unfold Hid
      rw [HX.out, ← HTL.out, h1]; rfl
    go_wp2_with fail
    go_ret
    exact ⟨by rw [HR.out]; rfl, rfl⟩
end Go.Proofs.PlatenFigure
