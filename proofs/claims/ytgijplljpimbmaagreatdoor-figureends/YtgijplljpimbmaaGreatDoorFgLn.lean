/- The document's Len is figure.Len, at every text. -/
import Derived.Test.YtgijplljpimbmaaGreatDoorFgZ
namespace Go.Proofs.PlatenFigure
open Go.RowKit
set_option linter.unusedVariables false
set_option linter.unusedSimpArgs false

def WD (t : List UInt8) : Prop := t.take 3 = [110, 97, 110] ∨ t.take 3 = [105, 110, 102]
theorem hp_iff (t p : List UInt8) : Lib.hasPrefix t p = true ↔ t.take p.length = p := by
  unfold Lib.hasPrefix
  rw [List.isPrefixOf_iff_prefix, List.prefix_iff_eq_take]
  exact ⟨fun h => h.symm, fun h => h.symm⟩
theorem wrd_yes {t : List UInt8} (h : WD t) : wrd t = 3 := by
  unfold wrd pfx pfx pfx
  rcases h with h | h
  · rw [if_pos ((hp_iff t [110, 97, 110]).2 h)]; rfl
  · by_cases q : Lib.hasPrefix t [110, 97, 110] = true
    · rw [if_pos q]; rfl
    · rw [if_neg q, if_pos ((hp_iff t [105, 110, 102]).2 h)]; rfl
theorem wrd_no {t : List UInt8} (h : ¬ WD t) : wrd t = 0 := by
  have h1 : ¬ Lib.hasPrefix t [110, 97, 110] = true := fun q => h (.inl ((hp_iff t [110, 97, 110]).1 q))
  have h2 : ¬ Lib.hasPrefix t [105, 110, 102] = true := fun q => h (.inr ((hp_iff t [105, 110, 102]).1 q))
  unfold wrd pfx pfx pfx
  rw [if_neg h1, if_neg h2]
theorem WD_len {t : List UInt8} (h : WD t) : 3 ≤ t.length := by
  have : (t.take 3).length = 3 := by rcases h with h | h <;> rw [h] <;> rfl
  rw [List.length_take] at this
  omega
theorem ris_iff (m : List UInt8) : ris m = true ↔ (m.drop (sg1 m) = [110, 97, 110] ∨ m.drop (sg1 m) = [105, 110, 102]) ∨ Nm (m.drop (sg1 m)) := by
  unfold ris
  rw [Bool.or_eq_true, Bool.or_eq_true, rnum_iff, beq_iff_eq, beq_iff_eq]
theorem sg1_take (l : List UInt8) {j : Nat} (h : 0 < j) : sg1 (l.take j) = sg1 l := by
  rcases l with _ | ⟨c, r⟩
  · simp
  · obtain ⟨k, rfl⟩ : ∃ k, j = k + 1 := ⟨j - 1, by omega⟩
    rw [List.take_succ_cons, sg1_cons, sg1_cons]
theorem drop_sg (l : List UInt8) {j : Nat} (h : 0 < j) : (l.take j).drop (sg1 (l.take j)) = (l.drop (sg1 l)).take (j - sg1 l) := by
  rw [sg1_take l h, List.drop_take]
theorem ulen_le (t : List UInt8) : ulen t ≤ t.length := by
  unfold ulen
  split
  · omega
  · have h1 := nd_le t
    have h2 := frac_le (t.drop (nd t))
    have h3 := expo_le (t.drop (nd t + frac (t.drop (nd t))))
    rw [List.length_drop] at h2 h3
    omega
theorem flen_eq (l : List UInt8) : flen l = if 0 < wrd (l.drop (sg1 l)) then sg1 l + wrd (l.drop (sg1 l)) else if ulen (l.drop (sg1 l)) = 0 then 0 else sg1 l + ulen (l.drop (sg1 l)) := by
  unfold flen sgn
  rw [sgn_eq]
  by_cases h : 0 < wrd (l.drop (sg1 l))
  · rw [if_pos h, if_pos h]
  · rw [if_neg h, if_neg h]
    by_cases h2 : nd (l.drop (sg1 l)) = 0
    · rw [if_pos h2, if_pos (by unfold ulen; rw [if_pos h2])]
    · have hu : ulen (l.drop (sg1 l)) = (nd (l.drop (sg1 l)) + frac ((l.drop (sg1 l)).drop (nd (l.drop (sg1 l))))) + expo ((l.drop (sg1 l)).drop (nd (l.drop (sg1 l)) + frac ((l.drop (sg1 l)).drop (nd (l.drop (sg1 l)))))) := by
        unfold ulen; rw [if_neg h2]
      rw [if_neg h2, if_neg (by rw [hu]; omega), hu]
      unfold tail1
      rw [List.drop_drop, List.drop_drop]
      simp only [Nat.add_assoc]
theorem part_small {c : UInt8} (h : rpart c = true) : c.toNat ≤ 101 := by
  simp [rpart, dg] at h
  omega
theorem rdown_eq (l : List UInt8) (F : Nat) : ∀ k, F ≤ k → (F = 0 ∨ ris (l.take F) = true) → (∀ j, F < j → j ≤ k → ris (l.take j) = false) → rdown l k = F
  | 0, h, _, _ => by unfold rdown; omega
  | k + 1, h, h1, h2 => by
    unfold rdown
    by_cases e : F = k + 1
    · subst e
      rw [if_pos (h1.resolve_left (by omega))]
    · rw [h2 (k + 1) (by omega) (Nat.le_refl _), if_neg (by simp)]
      exact rdown_eq l F k (by omega) h1 (fun j a b => h2 j a (by omega))
theorem tw_ge {p : UInt8 → Bool} {l : List UInt8} {n : Nat} (hn : n ≤ l.length) (h : (l.take n).all p = true) : n ≤ (l.takeWhile p).length := by
  have := tw_app (r := l.drop n) h
  rw [List.take_append_drop] at this
  rw [this, List.length_append, List.length_take]
  omega
theorem W_iff (l : List UInt8) {j : Nat} (h3 : 3 ≤ j) (hj : j ≤ l.length) : W l j = true ↔ (j = sg1 l + 3 ∧ WD (l.drop (sg1 l))) := by
  have hs := sg1_le l
  have hl : (l.drop (sg1 l)).length = l.length - sg1 l := List.length_drop
  have hg : l.getD (j - 1) 0 = ((l.drop (sg1 l)).take (j - sg1 l)).getD (j - 1 - sg1 l) 0 := by
    rw [List.getD_eq_getElem?_getD, List.getD_eq_getElem?_getD, List.getElem?_take_of_lt (by omega), List.getElem?_drop]
    congr 2; omega
  unfold W
  rw [Bool.and_eq_true, decide_eq_true_eq, ris_iff, drop_sg l (by omega), hg]
  have hlen : ((l.drop (sg1 l)).take (j - sg1 l)).length = j - sg1 l := by rw [List.length_take]; omega
  generalize l.drop (sg1 l) = t at *
  generalize sg1 l = s at *
  constructor
  · rintro ⟨h | h, hc⟩
    · have : j - s = 3 := by
        rw [← hlen]
        rcases h with h | h <;> rw [h] <;> rfl
      exact ⟨by omega, by unfold WD; rw [← this]; exact h⟩
    · have hp := nm_parts h
      rw [List.all_eq_true] at hp
      have hm : (t.take (j - s)).getD (j - 1 - s) 0 ∈ t.take (j - s) := by
        rw [List.getD_eq_getElem?_getD, List.getElem?_eq_getElem (by omega)]
        exact List.getElem_mem _
      have := part_small (hp _ hm)
      omega
  · rintro ⟨rfl, hw⟩
    rw [show s + 3 - s = 3 by omega, show s + 3 - 1 - s = 2 by omega]
    refine ⟨.inl hw, ?_⟩
    rcases hw with h | h <;> rw [h] <;> decide
theorem rlen_eq (l : List UInt8) : rlen l = flen l := by
  have hs := sg1_le l
  have hl : (l.drop (sg1 l)).length = l.length - sg1 l := List.length_drop
  rw [flen_eq]
  by_cases hw : WD (l.drop (sg1 l))
  · have h3 := WD_len hw
    rw [wrd_yes hw, if_pos (by omega)]
    unfold rlen
    by_cases h0 : sg1 l = 0
    · rw [if_pos ⟨by omega, (W_iff l (by omega) (by omega)).2 ⟨by omega, hw⟩⟩]; omega
    · rw [if_neg (fun h => by have := ((W_iff l (by omega) h.1).1 h.2).1; omega), if_pos ⟨by omega, (W_iff l (by omega) (by omega)).2 ⟨by omega, hw⟩⟩]; omega
  · rw [wrd_no hw, if_neg (by omega)]
    unfold rlen
    rw [if_neg (fun h => hw ((W_iff l (by omega) h.1).1 h.2).2), if_neg (fun h => hw ((W_iff l (by omega) h.1).1 h.2).2)]
    have hul := ulen_le (l.drop (sg1 l))
    have htw : rk l ≤ l.length := by
      have : rk l ≤ l.length := List.Sublist.length_le (List.takeWhile_sublist _)
      exact this
    refine rdown_eq l _ _ ?_ ?_ ?_
    · split
      · omega
      · rename_i h0
        refine tw_ge (by omega) ?_
        rw [List.take_add, List.all_append, sg_parts, nm_parts (nm_of h0)]; rfl
    · split
      · exact .inl rfl
      · rename_i h0
        refine .inr ((ris_iff _).2 (.inr ?_))
        rw [drop_sg l (by omega), show sg1 l + ulen (l.drop (sg1 l)) - sg1 l = ulen (l.drop (sg1 l)) by omega]
        exact nm_of h0
    · intro j hj hjk
      rw [Bool.eq_false_iff]
      intro hr
      have hj0 : 0 < j := by split at hj <;> omega
      rw [ris_iff, drop_sg l hj0] at hr
      rcases hr with h | h
      · have hlen : ((l.drop (sg1 l)).take (j - sg1 l)).length = j - sg1 l := by rw [List.length_take]; omega
        have : j - sg1 l = 3 := by
          rw [← hlen]
          rcases h with h | h <;> rw [h] <;> rfl
        rw [this] at h
        exact hw h
      · have hle := nm_le ((l.drop (sg1 l)).drop (j - sg1 l)) h
        rw [List.take_append_drop, List.length_take] at hle
        have hne : 0 < ((l.drop (sg1 l)).take (j - sg1 l)).length := by
          obtain ⟨a, f, x, he, ha, _⟩ := h
          rw [he, List.length_append]
          have := List.length_pos_iff.2 ha.1
          omega
        rw [List.length_take] at hne
        split at hj <;> omega
end Go.Proofs.PlatenFigure
