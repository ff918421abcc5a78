/- What the document's Fill, and Same at two texts of the same bytes come to. -/
import Derived.Test.YtlceplcjjhliaaaDoorCallsK
namespace Go.Proofs.PlatenGlyph
open Go.RowKit Go.Shelf
set_option linter.unusedVariables false

set_option maxHeartbeats 2000000 in
theorem rfill_any (from' to tab : Nat) (expand : Bool) (w : World) (hf : from' ≤ 100000) (ht : to ≤ 100000) (h1 : 1 ≤ tab) (htab : tab ≤ 1000) :
    Calls Tryd.prog 34 #[.int .i64 from', .int .i64 to, .int .i64 tab, .bool expand] w fun e w' => ∃ v, e = .returned v ∧ Laid w w' v (fll from' to tab expand) := by
  obtain ⟨i0, hi, hz0, hz1, hz2⟩ := info_parts info5
  go_enter Tryd.func34, Tryd.ntmps34
  go_wp2
  go_loopw [0, 9] (fun x v wr => ∃ (a : Nat) (l : List Nat), x = .int .i64 a ∧ Mid from' to tab expand a l ∧ Laid w wr v l) (fun x _ _ => to - (intOf x).toNat)
  case atStart => exact ⟨from', [], rfl, ⟨rfl, Nat.le_refl _, Or.inr rfl, Nat.zero_le _⟩, World.ownsRow_nil _ _ _ _, Below.refl _ _⟩
  case round =>
    obtain ⟨a, l, rfl, hm, hl⟩ := hrel
    by_cases hlt : a < to
    · have hr := rch_pos a tab h1
      have cr : Calls Tryd.prog 27 #[.int .i64 a, .int .u8 9, .int .i64 tab] wr fun e w' => e = .returned (.int .i64 (a + rch a tab : Nat)) ∧ w' = wr := by
        have := rstep_any a 9 tab wr (by omega) (by omega) h1 (by omega)
        rw [stp9] at this
        exact this
      have hll : l.length ≤ 100000 := by have := hm.2.2.2; omega
      have hown := hl.1
      have hsz := hl.2.size
      have Hl := hidden' hl
      by_cases hs : spc a to tab expand
      · have HM := hidden' (mid_space h1 hm hlt hs)
        rw [spc_iff] at hs
        clear hm hl
        have hcase : expand = true ∨ (expand = false ∧ to < a + rch a tab) ∨ (expand = false ∧ ¬ to < a + rch a tab ∧ rch a tab < 2) := by
          cases expand <;> simp at hs ⊢; omega
        clear hs
        rcases hcase with rfl | ⟨rfl, g⟩ | ⟨rfl, g, g'⟩
        all_goals obtain ⟨r, hr'⟩ : ∃ r, a + rch a tab = r := ⟨_, rfl⟩
        all_goals rw [hr'] at cr
        all_goals try (have gz : (to : Int) < (r : Int) := by omega)
        all_goals try (have gz1 : ¬ ((to : Int) < (r : Int)) := by omega)
        all_goals try (have gz2 : (r : Int) - (a : Int) < 2 := by omega)
        all_goals have hrb : r ≤ 200000 := by omega
        all_goals clear hr'
        all_goals try clear g
        all_goals try clear g'
        all_goals
          go_wp2_with (first
            | (go_at_call 27; refine cr.mono ?_; rintro e w2 ⟨rfl, rfl⟩)
            | (at_builtin; refine wpList_append_own _ rfl _ _ 22 rfl w.heap.size 5 i0 (.int .u8 0) 1 1 Tryd.underlying22 hi hz0 hz1 hz2 rfl (by decide) _ _ _ rfl (hown.alloc _) ⟨_, 0, none⟩ 1 1 [.int .u8 32] rfl rfl ?c1 ?c2 ?c3 ?c4 ?c5 ?_))
          case c1 =>
            intro j u hj
            match j, hj with
            | 0, hj => simp at hj; subst hj; simp [Addr.add]
          case c2 => intro u hu; simp at hu; subst hu; rfl
          case c3 => unfold maxLen; omega
          case c4 => omega
          case c5 => simp; omega
          intro v' w1 hown' hgrow _
          have HL := hidden' (laid_next (c := 32) Hl.out hown' hgrow)
          clear hown' hgrow hown
          go_wp2
          go_roundw
          case rel => exact ⟨a + 1, _, by go_num, HM.out, HL.out⟩
          case measure => simp [intOf]; omega
      · have HM := hidden' (mid_tab h1 hm hlt hs)
        rw [spc_iff] at hs
        clear hm hl
        have he : expand = false := by cases expand <;> simp at hs ⊢
        subst he
        obtain ⟨r, hr'⟩ : ∃ r, a + rch a tab = r := ⟨_, rfl⟩
        rw [hr'] at cr HM
        have gz1 : ¬ ((to : Int) < (r : Int)) := by omega
        have gz2 : ¬ ((r : Int) - (a : Int) < 2) := by omega
        have hra : a < r := by omega
        clear hs hr'
        go_wp2_with (first
          | (go_at_call 27; refine cr.mono ?_; rintro e w2 ⟨rfl, rfl⟩)
          | (at_builtin; refine wpList_append_own _ rfl _ _ 22 rfl w.heap.size 5 i0 (.int .u8 0) 1 1 Tryd.underlying22 hi hz0 hz1 hz2 rfl (by decide) _ _ _ rfl (hown.alloc _) ⟨_, 0, none⟩ 1 1 [.int .u8 9] rfl rfl ?c1 ?c2 ?c3 ?c4 ?c5 ?_))
        case c1 =>
          intro j u hj
          match j, hj with
          | 0, hj => simp at hj; subst hj; simp [Addr.add]
        case c2 => intro u hu; simp at hu; subst hu; rfl
        case c3 => unfold maxLen; omega
        case c4 => omega
        case c5 => simp; omega
        intro v' w1 hown' hgrow _
        have HL := hidden' (laid_next (c := 9) Hl.out hown' hgrow)
        clear hown' hgrow hown
        go_wp2
        go_roundw
        case rel => exact ⟨r, _, rfl, HM.out, HL.out⟩
        case measure => simp [intOf]; omega
    · have hz : ¬ ((a : Int) < (to : Int)) := by omega
      have HE := hidden' (mid_end hm hlt)
      clear hm
      go_wp2
      go_ret
      exact ⟨_, rfl, by rw [← HE.out]; exact hl⟩

set_option maxHeartbeats 1000000 in
theorem same_rows (b off cap b' off' cap' n : Nat) (f : Nat → Nat) (w : World) (hn : n ≤ 100000) (hf : ∀ j, f j < 256) (hc : Cells w b off n f) (hc' : Cells w b' off' n f) :
    Calls Tryd.prog 33 #[.slice (some ⟨b, off, none⟩) n cap, .slice (some ⟨b', off', none⟩) n cap'] w fun e w' => e = .returned (.bool true) ∧ Below w.heap.size w w' := by
  go_enter Tryd.func33, Tryd.ntmps33
  go_wp2
  go_loopw [5] (fun i wr => ∃ k : Nat, k ≤ n ∧ i = .int .i64 k ∧ Below w.heap.size w wr) (fun i _ => n - (intOf i).toNat)
  case atStart => exact ⟨0, Nat.zero_le _, rfl, Below.refl _ _⟩
  case round =>
    obtain ⟨k, hk, rfl, hb⟩ := hrel
    by_cases hlt : k < n
    · have g1 := hc.below hb k hlt
      have g2 := hc'.below hb k hlt
      have hx := hf k
      have hkz : (k : Int) < (n : Int) := by omega
      clear hc hc' hf
      generalize f k = x at *
      go_wp2
      go_quiet (fail)
      go_wp2
      go_roundw
      case rel => exact ⟨k + 1, by omega, by go_num, by first | exact hb | exact hb.drew | exact ⟨hb.os, hb.tape, hb.output, hb.size, hb.block⟩⟩
      case measure => simp [intOf]; omega
    · have hz : ¬ ((k : Int) < (n : Int)) := by omega
      clear hc hc'
      go_wp2
      go_ret
      exact ⟨rfl, hb⟩
end Go.Proofs.PlatenGlyph
