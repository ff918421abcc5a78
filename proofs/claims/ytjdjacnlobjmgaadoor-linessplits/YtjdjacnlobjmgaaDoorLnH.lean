/- What the document's Ends and Of come to: the places of line ends; how many of them are ahead of a place. -/
import Derived.Test.YtjdjacnlobjmgaaDoorLnG
import Derived.Test.YtjdjacnlobjmgaaDoorCallsM
namespace Go.Proofs.PlatenLines
open Go.RowKit Go.Shelf Go.Proofs.PlatenGlyph
set_option linter.unusedVariables false

def intsV (l : List Nat) : List Value := l.map fun c => Value.int .i64 (c : Nat)
theorem intsV_snoc (l : List Nat) (c : Nat) : intsV (l ++ [c]) = intsV l ++ [Value.int .i64 (c : Nat)] := by simp [intsV]
theorem isInts_list {w : World} {base : Nat} {v : Value} {l : List Nat} (h : w.ownsRow base 3 1 v l.length (intsV l)) : IsInts w v l.length (fun i => l.getD i 0) := by
  refine isInts_of (base := base) ?_
  have e : ((List.range l.length).map fun i => Value.int .i64 ((l.getD i 0 : Nat) : Int)) = intsV l := by
    unfold intsV
    apply List.ext_getElem?
    intro i
    by_cases hi : i < l.length
    · rw [List.getElem?_map, List.getElem?_range hi, List.getElem?_map, List.getElem?_eq_getElem hi]
      simp [List.getD_eq_getElem?_getD, List.getElem?_eq_getElem hi]
    · rw [List.getElem?_eq_none (by simp; omega), List.getElem?_eq_none (by simp; omega)]
  rw [e]; exact h

set_option maxHeartbeats 1000000 in
theorem ends_row (f : Nat → Nat) (b off n cap : Nat) (w : World) (hf : ∀ j, f j < 256) (hn : n ≤ 100000) (hcap : n ≤ cap) (hc : Cells w b off n f) :
    Calls Tryd.prog 13 #[.slice (some ⟨b, off, none⟩) n cap] w fun e w' => ∃ v, e = .returned v ∧ w'.ownsRow w.heap.size 3 1 v (lc f n) (intsV (ends f n)) ∧ Below w.heap.size w w' := by
  obtain ⟨i0, hi, hz0, hz1, hz2⟩ := info_parts info3
  go_enter Tryd.func13, Tryd.ntmps13
  go_wp2
  go_loopw [3, 4] (fun v i wr => ∃ k : Nat, k ≤ n ∧ i = .int .i64 (k : Nat) ∧ wr.ownsRow w.heap.size 3 1 v (lc f k) (intsV (ends f k)) ∧ Below w.heap.size w wr) (fun _ i _ => n - (intOf i).toNat)
  case atStart => exact ⟨0, Nat.zero_le _, rfl, World.ownsRow_nil _ _ _ _, Below.refl _ _⟩
  case round =>
    obtain ⟨k, hk, rfl, hown, hnx⟩ := hrel
    by_cases hlt : k < n
    · have g := (hc.below hnx) k hlt
      have hle := lc_le f k
      by_cases h10 : f k = 10
      · have hb : ((f k : Int) == 10) = true := by simp [h10]
        have Hsu : Hid (intsV (ends f (k + 1)) = intsV (ends f k) ++ [.int .i64 (k : Nat)]) := by unfold Hid; rw [ends_yes h10, intsV_snoc]
        have Hlc := hidden (lc_yes h10)
        have HC := hidden hc
        clear h10 hc
        generalize f k = y at *
        go_wp2_with (at_builtin; refine wpList_append_own _ rfl _ _ 25 rfl w.heap.size 3 i0 (.int .i64 0) 1 8 Tryd.underlying25 hi hz0 hz1 hz2 rfl (by decide) _ _ _ rfl (hown.alloc _) ⟨wr.heap.size, 0, none⟩ 1 1 [.int .i64 k] rfl rfl ?c1 ?c2 ?c3 ?c4 ?c5 ?_)
        case c1 =>
          intro j u hj
          match j, hj with
          | 0, hj => simp at hj; subst hj; simp [Addr.add]
        case c2 => intro u hu; simp at hu; subst hu; rfl
        case c3 => unfold maxLen; omega
        case c4 => omega
        case c5 => have := hnx.size; simp; omega
        intro v' w1 hown' hgrow _
        have Hb1 := hidden (below_append hnx.size hown hnx hgrow)
        have Hw1 : Hid (w1.ownsRow w.heap.size 3 1 v' (lc f (k + 1)) (intsV (ends f (k + 1)))) := by unfold Hid; rw [Hsu.out, Hlc.out]; exact hown'
        clear hown' hgrow hown hnx
        go_wp2
        go_roundw
        case rel => exact ⟨k + 1, by omega, by go_num, Hw1.out, Hb1.out⟩
        case measure => simp [intOf]; omega
      · have hb : ((f k : Int) == 10) = false := by simp; omega
        have Hw1 : Hid (wr.ownsRow w.heap.size 3 1 u3 (lc f (k + 1)) (intsV (ends f (k + 1)))) := by unfold Hid; rw [ends_no h10, lc_no h10]; exact hown
        have Hb1 := hidden hnx
        clear h10 hc hown hnx
        generalize f k = y at *
        go_wp2
        go_roundw
        case rel => exact ⟨k + 1, by omega, by go_num, Hw1.out, Hb1.out⟩
        case measure => simp [intOf]; omega
    · obtain rfl : k = n := by omega
      clear hc
      go_wp2
      go_ret
      exact ⟨_, rfl, hown, hnx⟩
set_option maxHeartbeats 400000 in
theorem ends_none (ea : Option Addr) (w : World) :
    Calls Tryd.prog 13 #[.slice ea 0 0] w fun e w' => e = .returned (.slice none 0 0) ∧ w' = w := by
  go_enter Tryd.func13, Tryd.ntmps13
  go_wp2
  go_loop [3, 4] (fun v i => v = .slice none 0 0 ∧ i = .int .i64 0) (fun _ _ => 0)
  case atStart => exact ⟨rfl, rfl⟩
  case round =>
    obtain ⟨rfl, rfl⟩ := hrel
    go_wp2
    go_ret
    exact ⟨rfl, rfl⟩
theorem ends_any (v : Value) (n : Nat) (f : Nat → Nat) (w : World) (hn : n ≤ 100000) (h : IsRow w v n f) :
    Calls Tryd.prog 13 #[v] w fun e w' => ∃ l, e = .returned l ∧ IsInts w' l (lc f n) (endAt f n) ∧ Below w.heap.size w w' := by
  obtain ⟨hf, _, h⟩ := h
  rcases h with ⟨ea, rfl, rfl⟩ | ⟨b, off, cap, rfl, hcap, hc⟩
  · exact (ends_none ea w).mono fun e w' ⟨he, hw⟩ => ⟨_, he, Or.inl ⟨rfl, rfl⟩, hw ▸ Below.refl _ _⟩
  · exact (ends_row f b off n cap w hf hn hcap hc).mono fun e w' ⟨v, he, hown, hb⟩ => ⟨v, he, isInts_list (l := ends f n) hown, hb⟩

/-- A place, where it counts for line ends: below 0 nothing is ahead of it. -/
theorem rof_clamp (f : Nat → Nat) (n : Nat) (a : Int) : lc f (clamp n a) = min (lc f n) (lc f a.toNat) := by
  have hz := clamp_z n a
  by_cases h : a ≤ n
  · have e : clamp n a = a.toNat := by omega
    rw [e]
    have := lc_mono f (show a.toNat ≤ n by omega)
    omega
  · have e : clamp n a = n := by omega
    rw [e]
    have := lc_mono f (show n ≤ a.toNat by omega)
    omega

set_option maxHeartbeats 1000000 in
theorem rof_any (v : Value) (n : Nat) (f : Nat → Nat) (a : Int) (w : World) (hn : n ≤ 100000) (h : IsRow w v n f) :
    Calls Tryd.prog 15 #[v, .int .i64 a] w fun e w' => e = .returned (.int .i64 (lc f (clamp n a) : Nat)) ∧ Below w.heap.size w w' := by
  have ce := ends_any v n f w hn h
  have hle := lc_le f n
  rw [rof_clamp]
  obtain ⟨ea, cap, rfl⟩ := h.len
  obtain ⟨c, hc⟩ : ∃ c, lc f n = c := ⟨_, rfl⟩
  have HS : Hid (∀ i, i < c → min (i + 1) (lc f a.toNat) = min i (lc f a.toNat) + if endAt f n i < a.toNat then 1 else 0) := fun i hi => below_step (by omega)
  rw [hc] at ce hle ⊢
  clear hc h
  go_enter Tryd.func15, Tryd.ntmps15
  go_wp2_with fail
  refine ce.mono ?_
  rintro e w1 ⟨l, rfl, hl, hb⟩
  rcases hl with ⟨rfl, rfl⟩ | ⟨g, gcap, rfl, hl⟩
  · clear ce
    go_wp2
    go_loop [5, 7] (fun x i => x = .int .i64 0 ∧ i = .int .i64 0) (fun _ _ => 0)
    case atStart => exact ⟨rfl, rfl⟩
    case round =>
      obtain ⟨rfl, rfl⟩ := hrel
      go_wp2
      go_ret
      exact ⟨by simp, hb⟩
  · clear ce
    go_wp2
    go_loop [5, 7] (fun x i => ∃ k : Nat, k ≤ c ∧ i = .int .i64 k ∧ x = .int .i64 (min k (lc f a.toNat) : Nat)) (fun _ i => c - (intOf i).toNat)
    case atStart => exact ⟨0, Nat.zero_le _, rfl, by simp⟩
    case round =>
      obtain ⟨k, hk, rfl, rfl⟩ := hrel
      by_cases hlt : k < c
      · have g1 := hl k hlt
        have hs := HS.out k hlt
        have hm : min k (lc f a.toNat) ≤ k := Nat.min_le_left _ _
        by_cases hlt2 : endAt f n k < a.toNat
        · have hz : ((endAt f n k : Nat) : Int) < a := by omega
          rw [if_pos hlt2] at hs
          have Hs := hidden hs
          clear hl hs hlt2 HS
          generalize endAt f n k = E at *
          generalize min k (lc f a.toNat) = M at *
          go_wp2
          go_round
          case rel => exact ⟨k + 1, by omega, by go_num, by rw [Hs.out]; go_num⟩
          case measure => simp [intOf]; omega
        · have hz : ¬ (((endAt f n k : Nat) : Int) < a) := by omega
          rw [if_neg hlt2] at hs
          have Hs := hidden hs
          clear hl hs hlt2 HS
          generalize endAt f n k = E at *
          generalize min k (lc f a.toNat) = M at *
          go_wp2
          go_round
          case rel => exact ⟨k + 1, by omega, by go_num, by rw [Hs.out]; go_num⟩
          case measure => simp [intOf]; omega
      · obtain rfl : k = c := by omega
        clear hl
        go_wp2
        go_ret
        exact ⟨rfl, hb⟩
end Go.Proofs.PlatenLines
