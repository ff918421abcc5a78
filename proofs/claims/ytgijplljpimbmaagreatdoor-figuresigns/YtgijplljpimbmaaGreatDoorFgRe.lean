/- What FigureFirsts comes to, where strconv.ParseFloat answers at each number's text; a blank behind a text. -/
import Derived.Test.YtgijplljpimbmaaGreatDoorFgRd
namespace Go.Proofs.PlatenFigure
open Go.RowKit
set_option linter.unusedVariables false
set_option linter.unusedSimpArgs false

set_option maxRecDepth 20000 in
set_option maxHeartbeats 4000000 in
theorem firsts_law (H : Parses 60) (s : ByteArray) (w : World) (hL : Lay w) :
    Calls Tryz.prog 5 #[.string s] w fun e w' => e = .returned (.bool true) ∧ Below w.heap.size w w' := by
  have c0 := reads_any w hL
  have HL := hidden hL
  clear hL
  by_cases hs : 60 < s.size
  · clear H
    go_enter Tryz.func5, Tryz.ntmps5
    go_wp2_with fail
    refine c0.mono ?_
    rintro e w1 ⟨rfl, hb⟩
    have HB := hidden hb
    have c1 := reads_any w1 (HL.out.below hb)
    clear hb c0
    go_wp2_with fail
    refine c1.mono ?_
    rintro e w2 ⟨rfl, hb2⟩
    have HB2 := hidden (HB.out.trans (hb2.mono HB.out.size))
    clear hb2
    go_wp2_with fail
    go_ret
    exact ⟨rfl, HB2.out⟩
  · rcases first_split (L s) with hr | ⟨k0, hk0, hr, hn0⟩
    · have c1 := fun w2 => ffirst_none s w2 (by omega) hr
      have c2 := fun w2 => rfirst_none s w2 (by omega) hr
      have c3 := fun w2 => fbits 0 w2
      clear H hr
      go_enter Tryz.func5, Tryz.ntmps5
      go_wp2_with fail
      refine c0.mono ?_
      rintro e w1 ⟨rfl, hb⟩
      have HB := hidden hb
      clear hb c0
      go_wp2_with fail
      refine (c1 _).mono ?_
      rintro e w2 ⟨rfl, hb2⟩
      have HB2 := hidden (HB.out.trans (hb2.mono HB.out.size))
      clear hb2
      go_wp2_with fail
      refine (c2 _).mono ?_
      rintro e w3 ⟨rfl, rfl⟩
      go_wp2_with fail
      go_ret
      exact ⟨rfl, HB2.out⟩
    · obtain ⟨n, hn⟩ : ∃ n, flen ((L s).drop k0) = n := ⟨_, rfl⟩
      rw [hn] at hn0
      obtain ⟨x, hx, hv⟩ := H.rval (s.extract k0 (k0 + n)) (by rw [ByteArray.size_extract]; omega) (by
        rw [L_ext, show k0 + n - k0 = n by omega, ← hn]
        exact flen_ris (by omega))
      have c1 := fun (w2 : World) (h : Lay w2) => ffirst_some s w2 (by omega) k0 n x hk0 hr hn hn0 hv h
      have c2 := fun (w2 : World) (h : Lay w2) => rfirst_some s w2 (by omega) k0 n x hk0 hr hn hn0 hv h
      have c3 := fun w2 => same_self x hx w2
      have hx2 := hidden hx
      clear H hr hv hx hn hn0 hk0
      go_enter Tryz.func5, Tryz.ntmps5
      go_wp2_with fail
      refine c0.mono ?_
      rintro e w1 ⟨rfl, hb⟩
      have HB := hidden hb
      have c1 := c1 w1 (HL.out.below hb)
      clear hb c0
      go_wp2_with fail
      refine c1.mono ?_
      rintro e w2 ⟨rfl, hb2⟩
      have HB2 := hidden (HB.out.trans (hb2.mono HB.out.size))
      have c2 := c2 w2 (HL.out.below HB2.out)
      clear hb2
      go_wp2_with fail
      refine c2.mono ?_
      rintro e w3 ⟨rfl, hb3⟩
      have HB3 := hidden (HB2.out.trans (hb3.mono HB2.out.size))
      clear hb3
      go_wp2_with fail
      refine (c3 _).mono ?_
      rintro e w4 ⟨rfl, rfl⟩
      go_wp2_with fail
      go_ret
      exact ⟨rfl, HB3.out⟩

theorem WD_ulen {t : List UInt8} (h : WD t) : ulen t = 0 := by
  have h3 := WD_len h
  unfold ulen
  rw [if_pos]
  rcases t with _ | ⟨c, t⟩
  · rfl
  · apply nd_stop
    rcases h with h | h <;> rw [show List.take 3 (c :: t) = c :: List.take 2 t from rfl] at h <;> injection h with h _ <;> subst h <;> decide
theorem flen_max {l : List UInt8} {n : Nat} (hn : n ≤ l.length) (h : ris (l.take n) = true) : n ≤ flen l := by
  by_cases h0 : n = 0
  · omega
  · have hs := sg1_le l
    have hl : (l.drop (sg1 l)).length = l.length - sg1 l := List.length_drop
    rw [ris_iff, drop_sg l (by omega)] at h
    rw [flen_eq]
    generalize l.drop (sg1 l) = t at *
    generalize sg1 l = s at *
    rcases h with h | h
    · have h3 : n - s = 3 := by
        have hlen : (t.take (n - s)).length = n - s := by rw [List.length_take]; omega
        rw [← hlen]
        rcases h with h | h <;> rw [h] <;> rfl
      rw [h3] at h
      rw [wrd_yes (t := t) h, if_pos (by omega)]
      omega
    · have h1 := nm_le (t.drop (n - s)) h
      have h2 := nm_pos h
      rw [List.take_append_drop] at h1
      rw [List.length_take] at h1 h2
      by_cases hw : WD t
      · have := WD_ulen hw
        omega
      · rw [wrd_no hw, if_neg (by omega), if_neg (by omega)]
        omega
theorem part32 {c : UInt8} (h : rpart c = true) : c.toNat ≠ 32 := by
  simp [rpart, dg] at h
  omega
theorem ris_last {m : List UInt8} (h : ris m = true) : (m.getD (m.length - 1) 0).toNat ≠ 32 := by
  have h0 := ((is_flen m).1 h).1
  have hs := sg1_le m
  rw [ris_iff] at h
  have hpos : 0 < (m.drop (sg1 m)).length := by
    rcases h with (h | h) | h
    · rw [h]; decide
    · rw [h]; decide
    · exact nm_pos h
  rw [last_drop m (sg1 m) (by rw [List.length_drop] at hpos; omega)]
  rcases h with (h | h) | h
  · rw [h]; decide
  · rw [h]; decide
  · have hp := nm_parts h
    rw [List.all_eq_true] at hp
    have hm : (m.drop (sg1 m)).getD ((m.drop (sg1 m)).length - 1) 0 ∈ m.drop (sg1 m) := by
      rw [List.getD_eq_getElem?_getD, List.getElem?_eq_getElem (by omega)]
      exact List.getElem_mem _
    exact part32 (hp _ hm)
theorem ris_blank (l : List UInt8) : ris (l ++ [32]) = false := by
  rw [Bool.eq_false_iff]
  intro h
  have := ris_last h
  rw [List.length_append] at this
  apply this
  rw [List.getD_eq_getElem?_getD, List.getElem?_append_right (by simp)]
  simp
theorem flen_blank (l : List UInt8) : flen (l ++ [32]) = flen l := by
  have h1 := flen_le (l ++ [32])
  have h2 := flen_le l
  rw [List.length_append] at h1
  have h1 : flen (l ++ [32]) ≤ l.length + 1 := h1
  apply Nat.le_antisymm
  · by_cases h0 : 0 < flen (l ++ [32])
    · have h3 := flen_ris h0
      by_cases h4 : flen (l ++ [32]) = l.length + 1
      · rw [List.take_of_length_le (by rw [List.length_append]; simp; omega), ris_blank] at h3
        cases h3
      · rw [List.take_append_of_le_length (by omega)] at h3
        exact flen_max (by omega) h3
    · omega
  · by_cases h0 : 0 < flen l
    · have h3 := flen_ris h0
      rw [← List.take_append_of_le_length (l₂ := [32]) h2] at h3
      exact flen_max (by rw [List.length_append]; omega) h3
    · omega
end Go.Proofs.PlatenFigure
