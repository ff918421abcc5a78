/- What the document's Delete comes to, of whatever table and whatever place. -/
import Derived.Test.YtibdhahkkejnjaaRefC
namespace Go.Proofs.PlatenPiece
open Go Go.RowKit
set_option linter.unusedVariables false
set_option maxRecDepth 100000

set_option maxHeartbeats 2000000 in
theorem rdelete_bad (B M : Nat) (lv : Value) (cs : List Rc) (N : Int) (at' n : Int) (w : World) (h : RTab B w M lv cs N) (hs2 : cs.length ≤ 100000) (hno : ¬ (0 ≤ at' ∧ at' ≤ (cs.length : Int) ∧ 0 ≤ n ∧ n ≤ (cs.length : Int) - at')) :
    Calls Try.prog 47 #[.pointer (some ⟨M, 0, none⟩), .int .i64 at', .int .i64 n] w fun e w' => e = .returned (.int .i64 1) ∧ w' = w := by
  have ch := rhas B M _ cs N at' n w h (by omega)
  rw [decide_eq_false hno] at ch
  clear h hno
  go_enter Try.func47, Try.ntmps47
  go_wp2_with fail
  refine ch.mono ?_
  rintro e w' ⟨rfl, rfl⟩
  go_wp2
  go_ret
  exact ⟨rfl, rfl⟩

set_option maxHeartbeats 2000000 in
theorem rdelete_none (B M : Nat) (N : Int) (w : World) (h : RTab B w M (.slice none 0 0) [] N) :
    Calls Try.prog 47 #[.pointer (some ⟨M, 0, none⟩), .int .i64 0, .int .i64 0] w fun e w' => e = .returned (.int .i64 0) ∧ RTab B w' M (.slice none 0 0) [] N ∧ Kept (ROwn M (.slice none 0 0)) w w' := by
  obtain ⟨i0, hi, hz0, hz1, hz2⟩ := info_parts info59
  have ch := rhas B M _ [] N 0 0 w h (by simp)
  rw [decide_eq_true (by simp)] at ch
  have c0 := h.c0
  have c1 := h.fz 0
  have nil0 : w.ownsRow B 83 3 (.slice none 0 0) 0 [] := World.ownsRow_nil _ _ _ _
  have HF : Hid (RTab B (w.setCell ⟨M, 0, none⟩ (.slice none 0 0)) M (.slice none 0 0) [] N) := (h.set (grownBy_refl w none) (by simp) (World.ownsRow_nil _ _ _ _)).1
  have HK : Hid (Kept (ROwn M (.slice none 0 0)) w (w.setCell ⟨M, 0, none⟩ (.slice none 0 0))) := kept_some (grownBy_set w M 0 _) (Or.inl rfl)
  clear h
  go_enter Try.func47, Try.ntmps47
  go_wp2_with fail
  refine ch.mono ?_
  rintro e w' ⟨rfl, rfl⟩
  go_wp2_with (at_builtin; refine wpList_append_own_none rfl _ _ 36 rfl B 83 i0 3 Try.underlying36 hi _ _ _ rfl nil0 rfl ?_)
  go_wp2_with (at_builtin; refine wpList_append_own_none rfl _ _ 36 rfl B 83 i0 3 Try.underlying36 hi _ _ _ rfl nil0 rfl ?_)
  go_wp2
  go_ret
  exact ⟨rfl, HF.out, HK.out⟩

/-- Delete, where there is so much. -/
theorem rdelete (B M : Nat) (lv : Value) (cs : List Rc) (N : Int) (at' n : Nat) (w : World) (h : RTab B w M lv cs N) (hs2 : cs.length ≤ 100000) (hin : at' + n ≤ cs.length) (hB : B ≤ w.heap.size) :
    Calls Try.prog 47 #[.pointer (some ⟨M, 0, none⟩), .int .i64 at', .int .i64 n] w fun e w' => e = .returned (.int .i64 0) ∧ ∃ lv', RTab B w' M lv' (rdel cs at' n) N ∧ Kept (ROwn M lv) w w' ∧ (∀ k, lv'.ownBlock = some k → w.heap.size ≤ k) := by
  rcases h.row.2 with ⟨rfl, h0⟩ | ⟨g, cap, cur, rfl, _, _, h1, h2, _⟩
  · obtain rfl : cs = [] := List.eq_nil_of_length_eq_zero h0
    obtain rfl : at' = 0 := by simp at hin; omega
    obtain rfl : n = 0 := by simp at hin; omega
    exact (rdelete_none B M N w h).mono fun e w' ⟨he, hT, hK⟩ => ⟨he, _, hT, hK, fun k hk => by cases hk⟩
  · exact rdelete_some B M g cap cs N at' n w cs.length h rfl hs2 hin hB h1 (by unfold maxLen at h2; omega)
end Go.Proofs.PlatenPiece
