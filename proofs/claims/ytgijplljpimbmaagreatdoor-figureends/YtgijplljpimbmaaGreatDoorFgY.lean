/- What the document's Len comes to. -/
import Derived.Test.YtgijplljpimbmaaGreatDoorFgX
import Derived.Deep.CutRange
import Derived.Deep.CutBlock
namespace Go.Proofs.PlatenFigure
open Go.RowKit
set_option linter.unusedVariables false

/-- Is a text's first j bytes a word, with a sign or none? -/
def W (l : List UInt8) (j : Nat) : Bool := ris (l.take j) && decide (102 ≤ (l.getD (j - 1) 0).toNat)
def rk (l : List UInt8) : Nat := (l.takeWhile rpart).length
def rdown (l : List UInt8) : Nat → Nat
  | 0 => 0
  | n + 1 => if ris (l.take (n + 1)) then n + 1 else rdown l n
def rlen (l : List UInt8) : Nat := if 3 ≤ l.length ∧ W l 3 = true then 3 else if 4 ≤ l.length ∧ W l 4 = true then 4 else rdown l (rk l)

set_option maxRecDepth 20000 in
set_option maxHeartbeats 4000000 in
theorem rlen_any (s : ByteArray) (w : World) (hs : s.size ≤ 1000000) :
    Calls Tryz.prog 14 #[.string s] w fun e w' => e = .returned (.int .i64 (rlen (L s) : Nat)) ∧ w' = w := by
  have HX : Hid (rlen (L s) = if 3 ≤ s.size ∧ W (L s) 3 = true then 3 else if 4 ≤ s.size ∧ W (L s) 4 = true then 4 else rdown (L s) (rk (L s))) := rfl
  have cI : ∀ j, j ≤ s.size → ∀ w2, Calls Tryz.prog 35 #[.string (s.extract 0 j)] w2 fun e w' => e = .returned (.bool (ris ((L s).take j))) ∧ w' = w2 := fun j hj w2 => by
    have := ris_any (s.extract 0 j) w2 (by rw [ByteArray.size_extract]; omega)
    rw [show L (s.extract 0 j) = (L s).take j by rw [L_ext]; simp] at this
    exact this
  have HI := hidden cI
  clear cI
  go_enter Tryz.func14, Tryz.ntmps14
  go_wp2_with fail
  go_loop [3] (fun i => ∃ k : Nat, 3 ≤ k ∧ k ≤ 5 ∧ i = .int .i64 k ∧ ∀ j, 3 ≤ j → j < k → j ≤ s.size ∧ W (L s) j = false) (fun i => 5 - (intOf i).toNat)
  case atStart => exact ⟨3, by omega, by omega, rfl, fun j h1 h2 => by omega⟩
  case round =>
    obtain ⟨k, hk3, hk5, rfl, hall⟩ := hrel
    by_cases hgo : k ≤ 4 ∧ k ≤ s.size
    · obtain ⟨hk4, hks⟩ := hgo
      have hg := get_L s (k - 1) (by omega)
      have c1 := HI.out k hks
      have HW : Hid (W (L s) k = (ris ((L s).take k) && decide (102 ≤ ((L s).getD (k - 1) 0).toNat))) := rfl
      have hkc : ((k : Int) - 1) = ((k - 1 : Nat) : Int) := by omega
      have HIs := hidden hks
      generalize ris ((L s).take k) = q at *
      generalize (L s).getD (k - 1) 0 = c at *
      have HALL := hidden hall
      clear hall
      have HN : Hid (W (L s) k = false → ∀ j, 3 ≤ j → j < k + 1 → j ≤ s.size ∧ W (L s) j = false) := fun hf j h1 h2 => by
        by_cases e : j = k
        · subst e; exact ⟨HIs.out, hf⟩
        · exact HALL.out j h1 (by omega)
      have HY : Hid (W (L s) k = true → rlen (L s) = k) := fun ht => by
        rw [HX.out]
        by_cases e : k = 3
        · subst e; rw [if_pos ⟨HIs.out, ht⟩]
        · obtain rfl : k = 4 := by omega
          rw [if_neg (by rw [(HALL.out 3 (by omega) (by omega)).2]; simp), if_pos ⟨HIs.out, ht⟩]
      clear HALL HX
      cases q
      · have HF : Hid (W (L s) k = false) := HW.out
        clear hg hkc HW HY
        go_wp2_with fail
        refine (c1 _).mono ?_
        rintro e w' ⟨rfl, rfl⟩
        go_wp2_with fail
        go_round
        case rel => exact ⟨k + 1, by omega, by omega, by go_num, HN.out HF.out⟩
        case measure => simp [intOf]; omega
      · by_cases hc : 102 ≤ c.toNat
        · have HF : Hid (rlen (L s) = k) := HY.out (by rw [HW.out]; simpa using hc)
          clear HY HN HW
          go_wp2_with fail
          refine (c1 _).mono ?_
          rintro e w' ⟨rfl, rfl⟩
          go_wp2_with fail
          go_ret
          exact ⟨by rw [HF.out]; rfl, rfl⟩
        · have HF : Hid (W (L s) k = false) := by unfold Hid; rw [HW.out]; simpa using hc
          clear HY HW
          go_wp2_with fail
          refine (c1 _).mono ?_
          rintro e w' ⟨rfl, rfl⟩
          go_wp2_with fail
          go_round
          case rel => exact ⟨k + 1, by omega, by omega, by go_num, HN.out HF.out⟩
          case measure => simp [intOf]; omega
    · have HF : Hid (rlen (L s) = rdown (L s) (rk (L s))) := by
        unfold Hid
        rw [HX.out, if_neg, if_neg]
        · intro h
          by_cases h4 : 4 < k
          · have := (hall 4 (by omega) h4).2
            rw [this] at h
            simp at h
          · omega
        · intro h
          by_cases h3 : 3 < k
          · have := (hall 3 (by omega) h3).2
            rw [this] at h
            simp at h
          · omega
      clear hall HX
      have hrk : rk (L s) ≤ s.size := by
        have : rk (L s) ≤ (L s).length := List.Sublist.length_le (List.takeWhile_sublist _)
        rwa [len_L] at this
      have hout : (k ≤ 4 ∧ ¬ k ≤ s.size) ∨ ¬ k ≤ 4 := by omega
      clear hgo
      rcases hout with ⟨hk4, hks⟩ | hk4
      all_goals
        go_upto_block 2 with fail
        go_cut [4] from 28 to 39 (fun a wx => a = .int .i64 (rk (L s) : Nat) ∧ wx = w)
        case first =>
          go_wp2_with fail
          go_loop [4] (fun i => ∃ m : Nat, m ≤ s.size ∧ i = .int .i64 m ∧ ∀ j, j < m → rpart ((L s).getD j 0) = true) (fun i => s.size - (intOf i).toNat)
          case atStart => exact ⟨0, Nat.zero_le _, rfl, fun j hj => absurd hj (Nat.not_lt_zero _)⟩
          case round =>
            obtain ⟨m, hm, rfl, hm2⟩ := hrel
            by_cases hlt : m < s.size
            · have hg := get_L s m hlt
              have c3 := fun w2 => rpart_any ((L s).getD m 0) w2
              cases hd : rpart ((L s).getD m 0)
              · have HG : Hid (rk (L s) = m) := tw_len _ (L s) m hm hm2 (fun _ => hd)
                rw [hd] at c3
                clear hm2 hd hrk HF
                generalize rk (L s) = r at *
                generalize (L s).getD m 0 = c at *
                go_wp2_with fail
                refine (c3 _).mono ?_
                rintro e w' ⟨rfl, rfl⟩
                go_wp2_with fail
                go_meet
                exact ⟨by rw [HG.out], rfl⟩
              · have HA : Hid (∀ j, j < m + 1 → rpart ((L s).getD j 0) = true) := fun j hj => by
                  by_cases e : j = m
                  · subst e; exact hd
                  · exact hm2 j (by omega)
                rw [hd] at c3
                clear hm2 hd hrk HF
                generalize rk (L s) = r at *
                generalize (L s).getD m 0 = c at *
                go_wp2_with fail
                refine (c3 _).mono ?_
                rintro e w' ⟨rfl, rfl⟩
                go_wp2_with fail
                go_round
                case rel => exact ⟨m + 1, by omega, by go_num, HA.out⟩
                case measure => simp [intOf]; omega
            · obtain rfl : m = s.size := by omega
              have HG : Hid (rk (L s) = s.size) := tw_len _ (L s) _ hm hm2 (fun h => absurd h (Nat.lt_irrefl _))
              clear hm2 hrk HF
              generalize rk (L s) = r at *
              go_wp2_with fail
              go_meet
              exact ⟨by rw [HG.out], rfl⟩
        case rest =>
        obtain ⟨rfl, rfl⟩ := hcut
        generalize rk (L s) = r at *
        go_wp2_with fail
        go_loop [5] (fun i => ∃ n : Nat, n ≤ r ∧ i = .int .i64 n ∧ rdown (L s) r = rdown (L s) n) (fun i => (intOf i).toNat)
        case atStart => exact ⟨r, Nat.le_refl _, rfl, rfl⟩
        case round =>
          obtain ⟨n, hn, rfl, hrd⟩ := hrel
          rcases n with _ | n
          · have HG : Hid (rlen (L s) = 0) := by unfold Hid; rw [HF.out, hrd]; rfl
            clear hrd HF
            go_wp2_with fail
            go_ret
            exact ⟨by rw [HG.out]; rfl, rfl⟩
          · have c4 := HI.out (n + 1) (by omega)
            have HD : Hid (rdown (L s) (n + 1) = if ris ((L s).take (n + 1)) then n + 1 else rdown (L s) n) := rfl
            have HRD := hidden hrd
            clear hrd
            generalize ris ((L s).take (n + 1)) = q at *
            cases q
            · have HG : Hid (rdown (L s) r = rdown (L s) n) := by unfold Hid; rw [HRD.out, HD.out]; rfl
              clear HRD HD HF
              go_wp2_with fail
              refine (c4 _).mono ?_
              rintro e w' ⟨rfl, rfl⟩
              go_wp2_with fail
              go_round
              case rel => exact ⟨n, by omega, by go_num, HG.out⟩
              case measure => simp [intOf]
            · have HG : Hid (rlen (L s) = n + 1) := by unfold Hid; rw [HF.out, HRD.out, HD.out]; rfl
              clear HRD HD HF
              go_wp2_with fail
              refine (c4 _).mono ?_
              rintro e w' ⟨rfl, rfl⟩
              go_wp2_with fail
              go_ret
              exact ⟨by rw [HG.out]; rfl, rfl⟩
end Go.Proofs.PlatenFigure
