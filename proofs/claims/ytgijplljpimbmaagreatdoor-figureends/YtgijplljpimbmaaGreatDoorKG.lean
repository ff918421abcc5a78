/- What figure.First and the document's First come to. -/
import Derived.Test.YtgijplljpimbmaaGreatDoorKH
namespace Go.Proofs.PlatenFigure
open Go.RowKit
set_option linter.unusedVariables false
set_option linter.unusedSimpArgs false

theorem first_split : ∀ l : List UInt8, (∀ j, j < l.length → flen (l.drop j) = 0) ∨ ∃ k, k < l.length ∧ (∀ j, j < k → flen (l.drop j) = 0) ∧ 0 < flen (l.drop k)
  | [] => .inl (fun j h => by simp at h)
  | c :: t => by
    by_cases h : 0 < flen (c :: t)
    · exact .inr ⟨0, by simp, fun j hj => absurd hj (Nat.not_lt_zero _), h⟩
    · rcases first_split t with h1 | ⟨k, h1, h2, h3⟩
      · refine .inl fun j hj => ?_
        rcases j with _ | j
        · rw [List.drop_zero]; omega
        · exact h1 j (by simpa using hj)
      · refine .inr ⟨k + 1, by simpa using h1, fun j hj => ?_, h3⟩
        rcases j with _ | j
        · rw [List.drop_zero]; omega
        · exact h2 j (by omega)
theorem flen_le (l : List UInt8) : flen l ≤ l.length := by
  have hs := sg1_le l
  have hl : (l.drop (sg1 l)).length = l.length - sg1 l := List.length_drop
  rw [flen_eq]
  have hu := ulen_le (l.drop (sg1 l))
  by_cases hw : WD (l.drop (sg1 l))
  · have := WD_len hw
    rw [wrd_yes hw, if_pos (by omega)]; omega
  · rw [wrd_no hw, if_neg (by omega)]
    split <;> omega
/-- The longest number's text of a text is a number's text. -/
theorem flen_ris {l : List UInt8} (h : 0 < flen l) : ris (l.take (flen l)) = true := by
  rw [ris_iff, drop_sg l h]
  rw [flen_eq] at h ⊢
  by_cases hw : WD (l.drop (sg1 l))
  · left
    rw [wrd_yes hw, if_pos (by omega), show sg1 l + 3 - sg1 l = 3 by omega]
    exact hw
  · right
    rw [wrd_no hw, if_neg (by omega)] at h ⊢
    split at h
    · omega
    · rename_i h0
      rw [if_neg h0, show sg1 l + ulen (l.drop (sg1 l)) - sg1 l = ulen (l.drop (sg1 l)) by omega]
      exact nm_of h0

set_option maxRecDepth 20000 in
set_option maxHeartbeats 2000000 in
theorem ffirst_none (s : ByteArray) (w : World) (hs : s.size ≤ 1000000) (hr : ∀ j, j < (L s).length → flen ((L s).drop j) = 0) :
    Calls Tryz.prog 19 #[.string s] w fun e w' => e = .returned (.tuple #[.float .f64 0, .bool false]) ∧ Below w.heap.size w w' := by
  have cl : ∀ k, k ≤ s.size → ∀ w2, Calls Tryz.prog 13 #[.string (s.extract k s.size)] w2 fun e w' => e = .returned (.int .i64 (flen ((L s).drop k) : Nat)) ∧ Below w2.heap.size w2 w' := fun k hk w2 => by
    have := len_any (s.extract k s.size) w2 (by rw [size_from s k hk]; omega)
    rwa [L_from] at this
  have HC := hidden cl
  clear cl
  have HR := hidden hr
  clear hr
  go_enter Tryz.func19, Tryz.ntmps19
  go_wp2_with fail
  go_loopw [8] (fun i wr => ∃ k : Nat, k ≤ s.size ∧ i = .int .i64 k ∧ Below w.heap.size w wr) (fun i _ => s.size - (intOf i).toNat)
  case atStart => exact ⟨0, Nat.zero_le _, rfl, Below.refl _ _⟩
  case round =>
  obtain ⟨k, hk, rfl, hb⟩ := hrel
  have HB := hidden hb
  clear hb
  by_cases hlt : k < s.size
  · have c1 := HC.out k (by omega)
    rw [HR.out k hlt] at c1
    go_wp2_with fail
    refine (c1 _).mono ?_
    rintro e w2 ⟨rfl, hb⟩
    have HB2 := hidden (HB.out.trans (hb.mono HB.out.size))
    clear hb
    go_wp2_with fail
    go_round
    case rel => exact ⟨k + 1, by omega, by go_num, HB2.out⟩
    case measure => simp [intOf]; omega
  · obtain rfl : k = s.size := by omega
    go_wp2_with fail
    go_ret2
    exact ⟨rfl, HB.out⟩
set_option maxRecDepth 20000 in
set_option maxHeartbeats 2000000 in
theorem rfirst_none (s : ByteArray) (w : World) (hs : s.size ≤ 1000000) (hr : ∀ j, j < (L s).length → flen ((L s).drop j) = 0) :
    Calls Tryz.prog 20 #[.string s] w fun e w' => e = .returned (.tuple #[.float .f64 0, .bool false]) ∧ w' = w := by
  have cl : ∀ k, k ≤ s.size → ∀ w2, Calls Tryz.prog 14 #[.string (s.extract k s.size)] w2 fun e w' => e = .returned (.int .i64 (flen ((L s).drop k) : Nat)) ∧ w' = w2 := fun k hk w2 => by
    have := rlen_any (s.extract k s.size) w2 (by rw [size_from s k hk]; omega)
    rwa [L_from, rlen_eq] at this
  have HC := hidden cl
  clear cl
  have HR := hidden hr
  clear hr
  go_enter Tryz.func20, Tryz.ntmps20
  go_wp2_with fail
  go_loop [4] (fun i => ∃ k : Nat, k ≤ s.size ∧ i = .int .i64 k) (fun i => s.size - (intOf i).toNat)
  case atStart => exact ⟨0, Nat.zero_le _, rfl⟩
  case round =>
  obtain ⟨k, hk, rfl⟩ := hrel
  by_cases hlt : k < s.size
  · have c1 := HC.out k (by omega)
    rw [HR.out k hlt] at c1
    go_wp2_with fail
    refine (c1 _).mono ?_
    rintro e w2 ⟨rfl, rfl⟩
    go_wp2_with fail
    go_round
    case rel => exact ⟨k + 1, by omega, by go_num⟩
    case measure => simp [intOf]; omega
  · obtain rfl : k = s.size := by omega
    go_wp2_with fail
    go_ret2
    exact ⟨rfl, rfl⟩
set_option maxRecDepth 20000 in
set_option maxHeartbeats 2000000 in
theorem ffirst_some (s : ByteArray) (w : World) (hs : s.size ≤ 1000000) (k0 n x : Nat) (hk0 : k0 < s.size) (hr : ∀ j, j < k0 → flen ((L s).drop j) = 0) (hn : flen ((L s).drop k0) = n) (hn0 : 0 < n) (hx : rval (s.extract k0 (k0 + n)) x) (hL : Lay w) :
    Calls Tryz.prog 19 #[.string s] w fun e w' => e = .returned (.tuple #[.float .f64 x, .bool true]) ∧ Below w.heap.size w w' := by
  have cl : ∀ k, k ≤ s.size → ∀ w2, Calls Tryz.prog 13 #[.string (s.extract k s.size)] w2 fun e w' => e = .returned (.int .i64 (flen ((L s).drop k) : Nat)) ∧ Below w2.heap.size w2 w' := fun k hk w2 => by
    have := len_any (s.extract k s.size) w2 (by rw [size_from s k hk]; omega)
    rwa [L_from] at this
  have HC := hidden cl
  clear cl
  have hkn : k0 + n ≤ s.size := by
    have := flen_le ((L s).drop k0)
    rw [hn, List.length_drop, len_L] at this
    omega
  have HR := hidden hr
  have hsub : ris (L (s.extract k0 (k0 + n))) = true := by
    rw [L_ext, show k0 + n - k0 = n by omega, ← hn]
    exact flen_ris (by omega)
  have HF := hidden (fun (w2 : World) (h : Lay w2) => fread_yes (s.extract k0 (k0 + n)) x w2 h (by rw [ByteArray.size_extract]; omega) hsub hx)
  have HN := hidden hn
  have HL := hidden hL
  clear hr hsub hx hn hL
  go_enter Tryz.func19, Tryz.ntmps19
  go_wp2_with fail
  go_loopw [8] (fun i wr => ∃ k : Nat, k ≤ k0 ∧ i = .int .i64 k ∧ Below w.heap.size w wr) (fun i _ => s.size - (intOf i).toNat)
  case atStart => exact ⟨0, Nat.zero_le _, rfl, Below.refl _ _⟩
  case round =>
  obtain ⟨k, hk, rfl, hb⟩ := hrel
  have HB := hidden hb
  clear hb
  have hlt : k < s.size := by omega
  by_cases hk1 : k < k0
  · have c1 := HC.out k (by omega)
    rw [HR.out k (by omega)] at c1
    go_wp2_with fail
    refine (c1 _).mono ?_
    rintro e w2 ⟨rfl, hb⟩
    have HB2 := hidden (HB.out.trans (hb.mono HB.out.size))
    clear hb
    go_wp2_with fail
    go_round
    case rel => exact ⟨k + 1, by omega, by go_num, HB2.out⟩
    case measure => simp [intOf]; omega
  · obtain rfl : k = k0 := by omega
    have c1 := HC.out k (by omega)
    rw [HN.out] at c1
    clear HC HN HR hk hk1
    obtain ⟨m, hm⟩ : ∃ m, m = k + n := ⟨_, rfl⟩
    rw [← hm] at HF hkn
    have e1 : ((k : Int) + (n : Int)) = ((m : Nat) : Int) := by omega
    have e2 : k ≤ m := by omega
    clear hm
    go_wp2_with fail
    refine (c1 _).mono ?_
    rintro e w2 ⟨rfl, hb⟩
    have HB2 := hidden (HB.out.trans (hb.mono HB.out.size))
    clear hb
    have c2 := HF.out w2 (HL.out.below HB2.out)
    go_wp2_with fail
    refine c2.mono ?_
    rintro e w3 ⟨rfl, hb3⟩
    have HB3 := hidden (HB2.out.trans (hb3.mono HB2.out.size))
    clear hb3
    go_wp2_with fail
    go_ret2
    exact ⟨rfl, HB3.out⟩
set_option maxRecDepth 20000 in
set_option maxHeartbeats 2000000 in
theorem rfirst_some (s : ByteArray) (w : World) (hs : s.size ≤ 1000000) (k0 n x : Nat) (hk0 : k0 < s.size) (hr : ∀ j, j < k0 → flen ((L s).drop j) = 0) (hn : flen ((L s).drop k0) = n) (hn0 : 0 < n) (hx : rval (s.extract k0 (k0 + n)) x) (hL : Lay w) :
    Calls Tryz.prog 20 #[.string s] w fun e w' => e = .returned (.tuple #[.float .f64 x, .bool true]) ∧ Below w.heap.size w w' := by
  have cl : ∀ k, k ≤ s.size → ∀ w2, Calls Tryz.prog 14 #[.string (s.extract k s.size)] w2 fun e w' => e = .returned (.int .i64 (flen ((L s).drop k) : Nat)) ∧ w' = w2 := fun k hk w2 => by
    have := rlen_any (s.extract k s.size) w2 (by rw [size_from s k hk]; omega)
    rwa [L_from, rlen_eq] at this
  have HC := hidden cl
  clear cl
  have hkn : k0 + n ≤ s.size := by
    have := flen_le ((L s).drop k0)
    rw [hn, List.length_drop, len_L] at this
    omega
  have HR := hidden hr
  have hsub : ris (L (s.extract k0 (k0 + n))) = true := by
    rw [L_ext, show k0 + n - k0 = n by omega, ← hn]
    exact flen_ris (by omega)
  have HF := hidden (fun (w2 : World) (h : Lay w2) => rread_yes (s.extract k0 (k0 + n)) x w2 h (by rw [ByteArray.size_extract]; omega) hsub hx)
  have HN := hidden hn
  have HL := hidden hL
  clear hr hsub hx hn hL
  go_enter Tryz.func20, Tryz.ntmps20
  go_wp2_with fail
  go_loop [4] (fun i => ∃ k : Nat, k ≤ k0 ∧ i = .int .i64 k) (fun i => s.size - (intOf i).toNat)
  case atStart => exact ⟨0, Nat.zero_le _, rfl⟩
  case round =>
  obtain ⟨k, hk, rfl⟩ := hrel
  have hlt : k < s.size := by omega
  by_cases hk1 : k < k0
  · have c1 := HC.out k (by omega)
    rw [HR.out k (by omega)] at c1
    go_wp2_with fail
    refine (c1 _).mono ?_
    rintro e w2 ⟨rfl, rfl⟩
    go_wp2_with fail
    go_round
    case rel => exact ⟨k + 1, by omega, by go_num⟩
    case measure => simp [intOf]; omega
  · obtain rfl : k = k0 := by omega
    have c1 := HC.out k (by omega)
    rw [HN.out] at c1
    clear HC HN HR hk hk1
    obtain ⟨m, hm⟩ : ∃ m, m = k + n := ⟨_, rfl⟩
    rw [← hm] at HF hkn
    have e1 : ((k : Int) + (n : Int)) = ((m : Nat) : Int) := by omega
    have e2 : k ≤ m := by omega
    clear hm
    go_wp2_with fail
    refine (c1 _).mono ?_
    rintro e w2 ⟨rfl, rfl⟩
    have c2 := HF.out w2 HL.out
    go_wp2_with fail
    refine c2.mono ?_
    rintro e w3 ⟨rfl, hb3⟩
    have HB3 := hidden hb3
    clear hb3
    go_wp2_with fail
    go_ret2
    exact ⟨rfl, HB3.out⟩
end Go.Proofs.PlatenFigure

/- What FigureFirsts comes to, where strconv.ParseFloat answers at each number's text; a blank behind a text. -/
namespace Go.Proofs.PlatenFigure
open Go.RowKit
set_option linter.unusedVariables false
set_option linter.unusedSimpArgs false

set_option maxRecDepth 20000 in
set_option maxHeartbeats 4000000 in
theorem firsts_law (H : Parses 60) (s : ByteArray) (w : World) (hL : Lay w) :
    Calls Tryz.prog 5 #[.string s] w fun e w' => e = .returned (.bool true) ∧ Below w.heap.size w w' := by
  have c0 := reads_any w hL
  have HL := hidden hL
  clear hL
  by_cases hs : 60 < s.size
  · clear H
    go_enter Tryz.func5, Tryz.ntmps5
    go_wp2_with fail
    refine c0.mono ?_
    rintro e w1 ⟨rfl, hb⟩
    have HB := hidden hb
    have c1 := reads_any w1 (HL.out.below hb)
    clear hb c0
    go_wp2_with fail
    refine c1.mono ?_
    rintro e w2 ⟨rfl, hb2⟩
    have HB2 := hidden (HB.out.trans (hb2.mono HB.out.size))
    clear hb2
    go_wp2_with fail
    go_ret
    exact ⟨rfl, HB2.out⟩
  · rcases first_split (L s) with hr | ⟨k0, hk0, hr, hn0⟩
    · have c1 := fun w2 => ffirst_none s w2 (by omega) hr
      have c2 := fun w2 => rfirst_none s w2 (by omega) hr
      have c3 := fun w2 => fbits 0 w2
      clear H hr
      go_enter Tryz.func5, Tryz.ntmps5
      go_wp2_with fail
      refine c0.mono ?_
      rintro e w1 ⟨rfl, hb⟩
      have HB := hidden hb
      clear hb c0
      go_wp2_with fail
      refine (c1 _).mono ?_
      rintro e w2 ⟨rfl, hb2⟩
      have HB2 := hidden (HB.out.trans (hb2.mono HB.out.size))
      clear hb2
      go_wp2_with fail
      refine (c2 _).mono ?_
      rintro e w3 ⟨rfl, rfl⟩
      go_wp2_with fail
      go_ret
      exact ⟨rfl, HB2.out⟩
    · obtain ⟨n, hn⟩ : ∃ n, flen ((L s).drop k0) = n := ⟨_, rfl⟩
      rw [hn] at hn0
      obtain ⟨x, hx, hv⟩ := H.rval (s.extract k0 (k0 + n)) (by rw [ByteArray.size_extract]; omega) (by
        rw [L_ext, show k0 + n - k0 = n by omega, ← hn]
        exact flen_ris (by omega))
      have c1 := fun (w2 : World) (h : Lay w2) => ffirst_some s w2 (by omega) k0 n x hk0 hr hn hn0 hv h
      have c2 := fun (w2 : World) (h : Lay w2) => rfirst_some s w2 (by omega) k0 n x hk0 hr hn hn0 hv h
      have c3 := fun w2 => same_self x hx w2
      have hx2 := hidden hx
      clear H hr hv hx hn hn0 hk0
      go_enter Tryz.func5, Tryz.ntmps5
      go_wp2_with fail
      refine c0.mono ?_
      rintro e w1 ⟨rfl, hb⟩
      have HB := hidden hb
      have c1 := c1 w1 (HL.out.below hb)
      clear hb c0
      go_wp2_with fail
      refine c1.mono ?_
      rintro e w2 ⟨rfl, hb2⟩
      have HB2 := hidden (HB.out.trans (hb2.mono HB.out.size))
      have c2 := c2 w2 (HL.out.below HB2.out)
      clear hb2
      go_wp2_with fail
      refine c2.mono ?_
      rintro e w3 ⟨rfl, hb3⟩
      have HB3 := hidden (HB2.out.trans (hb3.mono HB2.out.size))
      clear hb3
      go_wp2_with fail
      refine (c3 _).mono ?_
      rintro e w4 ⟨rfl, rfl⟩
      go_wp2_with fail
      go_ret
      exact ⟨rfl, HB3.out⟩

theorem WD_ulen {t : List UInt8} (h : WD t) : ulen t = 0 := by
  have h3 := WD_len h
  unfold ulen
  rw [if_pos]
  rcases t with _ | ⟨c, t⟩
  · rfl
  · apply nd_stop
    rcases h with h | h <;> rw [show List.take 3 (c :: t) = c :: List.take 2 t from rfl] at h <;> injection h with h _ <;> subst h <;> decide
theorem flen_max {l : List UInt8} {n : Nat} (hn : n ≤ l.length) (h : ris (l.take n) = true) : n ≤ flen l := by
  by_cases h0 : n = 0
  · omega
  · have hs := sg1_le l
    have hl : (l.drop (sg1 l)).length = l.length - sg1 l := List.length_drop
    rw [ris_iff, drop_sg l (by omega)] at h
    rw [flen_eq]
    generalize l.drop (sg1 l) = t at *
    generalize sg1 l = s at *
    rcases h with h | h
    · have h3 : n - s = 3 := by
        have hlen : (t.take (n - s)).length = n - s := by rw [List.length_take]; omega
        rw [← hlen]
        rcases h with h | h <;> rw [h] <;> rfl
      rw [h3] at h
      rw [wrd_yes (t := t) h, if_pos (by omega)]
      omega
    · have h1 := nm_le (t.drop (n - s)) h
      have h2 := nm_pos h
      rw [List.take_append_drop] at h1
      rw [List.length_take] at h1 h2
      by_cases hw : WD t
      · have := WD_ulen hw
        omega
      · rw [wrd_no hw, if_neg (by omega), if_neg (by omega)]
        omega
theorem part32 {c : UInt8} (h : rpart c = true) : c.toNat ≠ 32 := by
  simp [rpart, dg] at h
  omega
theorem ris_last {m : List UInt8} (h : ris m = true) : (m.getD (m.length - 1) 0).toNat ≠ 32 := by
  have h0 := ((is_flen m).1 h).1
  have hs := sg1_le m
  rw [ris_iff] at h
  have hpos : 0 < (m.drop (sg1 m)).length := by
    rcases h with (h | h) | h
    · rw [h]; decide
    · rw [h]; decide
    · exact nm_pos h
  rw [last_drop m (sg1 m) (by rw [List.length_drop] at hpos; omega)]
  rcases h with (h | h) | h
  · rw [h]; decide
  · rw [h]; decide
  · have hp := nm_parts h
    rw [List.all_eq_true] at hp
    have hm : (m.drop (sg1 m)).getD ((m.drop (sg1 m)).length - 1) 0 ∈ m.drop (sg1 m) := by
      rw [List.getD_eq_getElem?_getD, List.getElem?_eq_getElem (by omega)]
      exact List.getElem_mem _
    exact part32 (hp _ hm)
theorem ris_blank (l : List UInt8) : ris (l ++ [32]) = false := by
  rw [Bool.eq_false_iff]
  intro h
  have := ris_last h
  rw [List.length_append] at this
  apply this
  rw [List.getD_eq_getElem?_getD, List.getElem?_append_right (by simp)]
  simp
theorem flen_blank (l : List UInt8) : flen (l ++ [32]) = flen l := by
  have h1 := flen_le (l ++ [32])
  have h2 := flen_le l
  rw [List.length_append] at h1
  have h1 : flen (l ++ [32]) ≤ l.length + 1 := h1
  apply Nat.le_antisymm
  · by_cases h0 : 0 < flen (l ++ [32])
    · have h3 := flen_ris h0
      by_cases h4 : flen (l ++ [32]) = l.length + 1
      · rw [List.take_of_length_le (by rw [List.length_append]; simp; omega), ris_blank] at h3
        cases h3
      · rw [List.take_append_of_le_length (by omega)] at h3
        exact flen_max (by omega) h3
    · omega
  · by_cases h0 : 0 < flen l
    · have h3 := flen_ris h0
      rw [← List.take_append_of_le_length (l₂ := [32]) h2] at h3
      exact flen_max (by rw [List.length_append]; omega) h3
    · omega
end Go.Proofs.PlatenFigure
