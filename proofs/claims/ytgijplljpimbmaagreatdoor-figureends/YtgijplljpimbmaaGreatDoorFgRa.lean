/- A text is a number's for the document where figure.Len is its length; which of them are nan. -/
import Derived.Test.YtgijplljpimbmaaGreatDoorFgLn
import Derived.Test.YtgijplljpimbmaaGreatDoorFgT
namespace Go.Proofs.PlatenFigure
open Go.RowKit
set_option linter.unusedVariables false
set_option linter.unusedSimpArgs false

theorem nm_pos {t : List UInt8} (h : Nm t) : 0 < t.length := by
  obtain ⟨a, f, x, rfl, ha, _⟩ := h
  rw [List.length_append]
  have := List.length_pos_iff.2 ha.1
  omega
theorem nm_noWD {t : List UInt8} (h : Nm t) : ¬ WD t := by
  intro hw
  have hp := nm_parts h
  rw [List.all_eq_true] at hp
  have h3 := WD_len hw
  have hc : t.getD 0 0 = (t.take 3).getD 0 0 := by
    rw [List.getD_eq_getElem?_getD, List.getD_eq_getElem?_getD, List.getElem?_take_of_lt (by omega)]
  have hm : t.getD 0 0 ∈ t := by
    rw [List.getD_eq_getElem?_getD, List.getElem?_eq_getElem (by omega)]
    exact List.getElem_mem _
  have h1 := part_small (hp _ hm)
  rw [hc] at h1
  rcases hw with h | h <;> rw [h] at h1 <;> exact absurd h1 (by decide)
theorem is_flen (l : List UInt8) : ris l = true ↔ (0 < l.length ∧ flen l = l.length) := by
  have hs := sg1_le l
  have hl : (l.drop (sg1 l)).length = l.length - sg1 l := List.length_drop
  rw [ris_iff, flen_eq]
  generalize l.drop (sg1 l) = t at *
  generalize sg1 l = s at *
  constructor
  · rintro (h | h)
    · have hw : WD t := by
        rcases h with h | h
        · exact .inl (by rw [h]; rfl)
        · exact .inr (by rw [h]; rfl)
      have h3 : t.length = 3 := by rcases h with h | h <;> rw [h] <;> rfl
      rw [wrd_yes hw, if_pos (by omega)]
      omega
    · have h0 := nm_pos h
      have h1 := nm_le [] h
      rw [List.append_nil] at h1
      have h2 := ulen_le t
      rw [wrd_no (nm_noWD h), if_neg (by omega), if_neg (by omega)]
      omega
  · rintro ⟨h0, h1⟩
    by_cases hw : WD t
    · have h3 := WD_len hw
      rw [wrd_yes hw, if_pos (by omega)] at h1
      left
      have ht : t.take 3 = t := List.take_of_length_le (by omega)
      unfold WD at hw
      rwa [ht] at hw
    · rw [wrd_no hw, if_neg (by omega)] at h1
      split at h1
      · omega
      · rename_i hu
        have h2 := nm_of hu
        rw [List.take_of_length_le (by omega)] at h2
        exact .inr h2
theorem last_drop (l : List UInt8) (s : Nat) (h : s < l.length) : l.getD (l.length - 1) 0 = (l.drop s).getD ((l.drop s).length - 1) 0 := by
  rw [List.getD_eq_getElem?_getD, List.getD_eq_getElem?_getD, List.getElem?_drop, List.length_drop]
  congr 2; omega
/-- Of a number's text the last byte is n where it ends in nan, and only there. -/
theorem nan_iff {l : List UInt8} (h : ris l = true) : Lib.hasSuffix l [110, 97, 110] = decide ((l.getD (l.length - 1) 0).toNat = 110) := by
  rw [Bool.eq_iff_iff, decide_eq_true_eq]
  unfold Lib.hasSuffix
  rw [List.isSuffixOf_iff_suffix]
  constructor
  · rintro ⟨x, rfl⟩
    rw [last_drop _ x.length (by simp), List.drop_left]; rfl
  · intro hc
    have h0 := ((is_flen l).1 h).1
    have hs := sg1_le l
    rw [ris_iff] at h
    have hpos : 0 < (l.drop (sg1 l)).length := by
      rcases h with (h | h) | h
      · rw [h]; decide
      · rw [h]; decide
      · exact nm_pos h
    rw [last_drop l (sg1 l) (by rw [List.length_drop] at hpos; omega)] at hc
    rcases h with (h | h) | h
    · exact ⟨l.take (sg1 l), by rw [← h, List.take_append_drop]⟩
    · rw [h] at hc; exact absurd hc (by decide)
    · have hp := nm_parts h
      rw [List.all_eq_true] at hp
      have hm : (l.drop (sg1 l)).getD ((l.drop (sg1 l)).length - 1) 0 ∈ l.drop (sg1 l) := by
        rw [List.getD_eq_getElem?_getD, List.getElem?_eq_getElem (by omega)]
        exact List.getElem_mem _
      have := part_small (hp _ hm)
      omega
end Go.Proofs.PlatenFigure
