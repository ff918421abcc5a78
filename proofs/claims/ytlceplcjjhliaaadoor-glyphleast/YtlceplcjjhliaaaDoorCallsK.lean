/- What the program's Fill, the document's Fill, and Same at two texts of the same bytes come to. -/
import Derived.Test.YtlceplcjjhliaaaDoorCallsJ
import Derived.Test.YtlceplcjjhliaaaDoorFillM
import Derived.BigQuiet
import Derived.Deep.QuietTactic
namespace Go.Proofs.PlatenGlyph
open Go.RowKit Go.Shelf
set_option linter.unusedVariables false

def bytesV (l : List Nat) : List Value := l.map fun c => Value.int .u8 (c : Nat)

theorem bytesV_snoc (l : List Nat) (c : Nat) : bytesV (l ++ [c]) = bytesV l ++ [Value.int .u8 (c : Nat)] := by simp [bytesV]

theorem isBytes_own {w : World} {base : Nat} {v : Value} {l : List Nat} (hl : ∀ c, c ∈ l → c < 256) (hn : l.length ≤ 1000000) (h : w.ownsRow base 5 1 v l.length (bytesV l)) : IsBytes w v l.length (fun j => l.getD j 0) := by
  refine ⟨fun j => ?_, by omega, ?_⟩
  · show l.getD j 0 < 256
    by_cases hj : j < l.length
    · rw [List.getD_eq_getElem?_getD, List.getElem?_eq_getElem hj]; exact hl _ (List.getElem_mem hj)
    · rw [List.getD_eq_getElem?_getD, List.getElem?_eq_none (by omega)]; decide
  obtain ⟨_, h⟩ := h
  rcases h with ⟨rfl, h0⟩ | ⟨g, cap, cur, rfl, _, hh, hc, _, hs, ht⟩
  · exact Or.inl ⟨none, 0, rfl, h0⟩
  · refine Or.inr ⟨g, 0, cap, rfl, hc, fun i hi => ?_⟩
    have h1 : (cur.toList.take (l.length * 1))[i]? = some (Value.int .u8 (l.getD i 0 : Nat)) := by
      rw [ht, bytesV, List.getElem?_map, List.getD_eq_getElem?_getD, List.getElem?_eq_getElem hi]; rfl
    rw [List.getElem?_take, if_pos (by omega), Array.getElem?_toList] at h1
    simp only [World.cell?, hh]
    simpa using h1

/-- What a call that lays blanks leaves. -/
def Laid (w w' : World) (v : Value) (l : List Nat) : Prop := w'.ownsRow w.heap.size 5 1 v l.length (bytesV l) ∧ Below w.heap.size w w'

theorem laid_next {w wr w1 : World} {v v' : Value} {o : Obj} {l : List Nat} {c : Nat} (h : Laid w wr v l) (hown' : w1.ownsRow w.heap.size 5 1 v' (l.length + 1) (bytesV l ++ [Value.int .u8 (c : Nat)])) (hg : (wr.alloc o).grownBy w1 v.ownBlock) : Laid w w1 v' (l ++ [c]) := by
  refine ⟨?_, below_append h.2.size h.1 h.2 hg⟩
  rw [bytesV_snoc, List.length_append]; exact hown'

/-- Where the loop stands: what is laid, and what is left to lay. -/
def Mid (from' to tab : Nat) (expand : Bool) (a : Nat) (l : List Nat) : Prop := l ++ fll a to tab expand = fll from' to tab expand ∧ from' ≤ a ∧ (a ≤ to ∨ a = from') ∧ l.length ≤ a - from'

theorem mid_space {from' to tab a : Nat} {expand : Bool} {l : List Nat} (h1 : 1 ≤ tab) (h : Mid from' to tab expand a l) (ha : a < to) (hs : spc a to tab expand) : Mid from' to tab expand (a + 1) (l ++ [32]) := by
  obtain ⟨e, g1, g2, g3⟩ := h
  refine ⟨?_, by omega, by omega, by simp; omega⟩
  rw [← e, fll_space h1 ha hs, List.append_assoc]; rfl
theorem mid_tab {from' to tab a : Nat} {expand : Bool} {l : List Nat} (h1 : 1 ≤ tab) (h : Mid from' to tab expand a l) (ha : a < to) (hs : ¬ spc a to tab expand) : Mid from' to tab expand (a + rch a tab) (l ++ [9]) := by
  obtain ⟨e, g1, g2, g3⟩ := h
  have hr := rch_pos a tab h1
  have hle : a + rch a tab ≤ to := by rw [spc_iff] at hs; omega
  refine ⟨?_, by omega, by omega, by simp; omega⟩
  rw [← e, fll_tab h1 ha hs, List.append_assoc]; rfl
theorem mid_end {from' to tab a : Nat} {expand : Bool} {l : List Nat} (h : Mid from' to tab expand a l) (ha : ¬ a < to) : l = fll from' to tab expand := by
  have := h.1; rw [fll_end ha, List.append_nil] at this; exact this

set_option maxHeartbeats 2000000 in
theorem fill_any (from' to tab : Nat) (expand : Bool) (w : World) (hf : from' ≤ 100000) (ht : to ≤ 100000) (h1 : 1 ≤ tab) (htab : tab ≤ 1000) :
    Calls Tryd.prog 32 #[.int .i64 from', .int .i64 to, .int .i64 tab, .bool expand] w fun e w' => ∃ v, e = .returned v ∧ Laid w w' v (fll from' to tab expand) := by
  obtain ⟨i0, hi, hz0, hz1, hz2⟩ := info_parts info5
  go_enter Tryd.func32, Tryd.ntmps32
  go_wp2
  go_loopw [0, 9] (fun x v wr => ∃ (a : Nat) (l : List Nat), x = .int .i64 a ∧ Mid from' to tab expand a l ∧ Laid w wr v l) (fun x _ _ => to - (intOf x).toNat)
  case atStart => exact ⟨from', [], rfl, ⟨rfl, Nat.le_refl _, Or.inr rfl, Nat.zero_le _⟩, World.ownsRow_nil _ _ _ _, Below.refl _ _⟩
  case round =>
    obtain ⟨a, l, rfl, hm, hl⟩ := hrel
    by_cases hlt : a < to
    · have hr := rch_pos a tab h1
      have cr : Calls Tryd.prog 39 #[.int .i64 a, .int .i64 tab] wr fun e w' => e = .returned (.int .i64 (rch a tab : Nat)) ∧ w' = wr := reach_any a tab wr (by omega) h1 (by omega)
      have hll : l.length ≤ 100000 := by have := hm.2.2.2; omega
      have hown := hl.1
      have hsz := hl.2.size
      have Hl := hidden' hl
      by_cases hs : spc a to tab expand
      · have HM := hidden' (mid_space h1 hm hlt hs)
        rw [spc_iff] at hs
        clear hm hl
        have hcase : expand = true ∨ (expand = false ∧ rch a tab < 2) ∨ (expand = false ∧ ¬ rch a tab < 2 ∧ to - a < rch a tab) := by
          cases expand <;> simp at hs ⊢; omega
        clear hs
        rcases hcase with rfl | ⟨rfl, g⟩ | ⟨rfl, g, g'⟩
        all_goals generalize rch a tab = r at *
        all_goals try (have gz : (r : Int) < 2 := by omega)
        all_goals try (have gz1 : ¬ ((r : Int) < 2) := by omega)
        all_goals try (have gz2 : (to : Int) - (a : Int) < (r : Int) := by omega)
        all_goals try clear g
        all_goals try clear g'
        all_goals
          go_wp2_with (first
            | (go_at_call 39; refine cr.mono ?_; rintro e w2 ⟨rfl, rfl⟩)
            | (at_builtin; refine wpList_append_own _ rfl _ _ 22 rfl w.heap.size 5 i0 (.int .u8 0) 1 1 Tryd.underlying22 hi hz0 hz1 hz2 rfl (by decide) _ _ _ rfl (hown.alloc _) ⟨_, 0, none⟩ 1 1 [.int .u8 32] rfl rfl ?c1 ?c2 ?c3 ?c4 ?c5 ?_))
          case c1 =>
            intro j u hj
            match j, hj with
            | 0, hj => simp at hj; subst hj; simp [Addr.add]
          case c2 => intro u hu; simp at hu; subst hu; rfl
          case c3 => unfold maxLen; omega
          case c4 => omega
          case c5 => simp; omega
          intro v' w1 hown' hgrow _
          have HL := hidden' (laid_next (c := 32) Hl.out hown' hgrow)
          clear hown' hgrow hown
          go_wp2
          go_roundw
          case rel => exact ⟨a + 1, _, by go_num, HM.out, HL.out⟩
          case measure => simp [intOf]; omega
      · have HM := hidden' (mid_tab h1 hm hlt hs)
        rw [spc_iff] at hs
        clear hm hl
        have he : expand = false := by cases expand <;> simp at hs ⊢
        subst he
        have gz1 : ¬ ((rch a tab : Int) < 2) := by omega
        have gz2 : ¬ ((to : Int) - (a : Int) < (rch a tab : Int)) := by omega
        clear hs
        generalize rch a tab = r at *
        go_wp2_with (first
          | (go_at_call 39; refine cr.mono ?_; rintro e w2 ⟨rfl, rfl⟩)
          | (at_builtin; refine wpList_append_own _ rfl _ _ 22 rfl w.heap.size 5 i0 (.int .u8 0) 1 1 Tryd.underlying22 hi hz0 hz1 hz2 rfl (by decide) _ _ _ rfl (hown.alloc _) ⟨_, 0, none⟩ 1 1 [.int .u8 9] rfl rfl ?c1 ?c2 ?c3 ?c4 ?c5 ?_))
        case c1 =>
          intro j u hj
          match j, hj with
          | 0, hj => simp at hj; subst hj; simp [Addr.add]
        case c2 => intro u hu; simp at hu; subst hu; rfl
        case c3 => unfold maxLen; omega
        case c4 => omega
        case c5 => simp; omega
        intro v' w1 hown' hgrow _
        have HL := hidden' (laid_next (c := 9) Hl.out hown' hgrow)
        clear hown' hgrow hown
        go_wp2
        go_roundw
        case rel => exact ⟨a + r, _, by go_num, HM.out, HL.out⟩
        case measure => simp [intOf]; omega
    · have hz : ¬ ((a : Int) < (to : Int)) := by omega
      have HE := hidden' (mid_end hm hlt)
      clear hm
      go_wp2
      go_ret
      exact ⟨_, rfl, by rw [← HE.out]; exact hl⟩
end Go.Proofs.PlatenGlyph
