/- The document's spread. -/
import Derived.Test.YtaefnlknendapaaLyD
namespace Go.Proofs.PlatenLayout
open Go Go.RowKit Go.Shelf
set_option linter.unusedVariables false
set_option maxRecDepth 100000

/-- A row of one's own that has grown, and perhaps moved. -/
structure GrowB (B : Nat) (w : World) (v : Value) (w' : World) (v' : Value) (bs : List Nat) : Prop where
  row : w'.ownsRow B 5 1 v' bs.length (bc bs)
  gr : w.grownBy w' v.ownBlock
  loc : v'.ownBlock = v.ownBlock ∨ ∃ m, w.heap.size ≤ m ∧ v'.ownBlock = some m
theorem GrowB.next {B : Nat} {w w1 w2 : World} {v v1 v2 : Value} {bs : List Nat} {c : Nat} {o : Obj} (h : GrowB B w v w1 v1 bs) (hr : w2.ownsRow B 5 1 v2 (bs.length + 1) (bc bs ++ [.int .u8 (c : Nat)])) (hg : (w1.alloc o).grownBy w2 v1.ownBlock) (hl : v2.ownBlock = v1.ownBlock ∨ ∃ m, w1.heap.size ≤ m ∧ v2.ownBlock = some m) : GrowB B w v w2 v2 (bs ++ [c]) where
  row := by rw [List.length_append, List.length_singleton, bc_app]; exact hr
  gr := by
    have hs := h.gr.size
    have hs2 := hg.size
    rw [World.size_alloc] at hs2
    refine ⟨hg.os.trans h.gr.os, hg.tape.trans h.gr.tape, hg.output.trans h.gr.output, by omega, fun k hk hne => ?_⟩
    have hne1 : some k ≠ v1.ownBlock := fun e => by
      rcases h.loc with l | ⟨m, hm, l⟩
      · exact hne (e.trans l)
      · rw [l] at e
        injection e with e
        omega
    have h1 := hg.block k (by rw [World.size_alloc]; omega) hne1
    rw [Below.heap_alloc w1 o k (by omega)] at h1
    exact h1.trans (h.gr.block k hk hne)
  loc := by
    rcases hl with l | ⟨m, hm, l⟩
    · rcases h.loc with l' | ⟨m', hm', l'⟩
      · exact Or.inl (l.trans l')
      · exact Or.inr ⟨m', hm', l.trans l'⟩
    · exact Or.inr ⟨m, Nat.le_trans h.gr.size hm, l⟩
theorem sp_snoc (q : Nat) : sp (q + 1) = sp q ++ [32] := by unfold sp; rw [List.replicate_succ']
/-- Spaces behind a text, or that it is too much. -/
def SprPost (B : Nat) (w : World) (v : Value) (bs : List Nat) (n : Int) (e : Ending) (w' : World) : Prop :=
  ((65536 : Int) - (bs.length : Nat) < n ∧ e = .returned (.tuple #[.slice none 0 0, .bool false]) ∧ w' = w) ∨
  (n ≤ (65536 : Int) - (bs.length : Nat) ∧ ∃ v', e = .returned (.tuple #[v', .bool true]) ∧ GrowB B w v w' v' (bs ++ sp n.toNat))
set_option maxHeartbeats 2000000 in
theorem spread_any {B : Nat} {w : World} {v : Value} {bs : List Nat} (hr : w.ownsRow B 5 1 v bs.length (bc bs)) (hB : B ≤ w.heap.size) (n : Int) (hn : -2000000000000 ≤ n ∧ n ≤ 2000000000000) (hl : bs.length ≤ 1000000) :
    Calls Try.prog 26 #[v, .int .i64 n] w (SprPost B w v bs n) := by
  obtain ⟨i5, hi5, hz5, hy5, hb5⟩ := info_parts info5
  obtain ⟨va, vc, rfl⟩ := row_slice hr
  by_cases hbig : (65536 : Int) - (bs.length : Nat) < n
  · have HB := hidden hbig
    clear hr
    go_enter Try.func26, Try.ntmps26
    go_wp2_with fail
    go_ret2
    exact Or.inl ⟨HB.out, rfl, rfl⟩
  · have hle : n ≤ (65536 : Int) - (bs.length : Nat) := by omega
    have HR : Hid (GrowB B w (.slice va bs.length vc) w (.slice va bs.length vc) bs) := ⟨hr, ⟨rfl, rfl, rfl, Nat.le_refl _, fun _ _ _ => rfl⟩, Or.inl rfl⟩
    obtain ⟨N, hN⟩ : ∃ N, n.toNat = N := ⟨_, rfl⟩
    have HN := hidden hN
    have hN2 : N ≤ 65536 := by omega
    have hN3 : (0 ≤ n ∧ n = (N : Int)) ∨ (n < 0 ∧ N = 0) := by omega
    have HLE := hidden hle
    clear hr hN hbig
    go_enter Try.func26, Try.ntmps26
    go_wp2_with fail
    go_loopw [0, 6] (fun pv iv wr => ∃ q : Nat, q ≤ N ∧ iv = .int .i64 (q : Nat) ∧ GrowB B w (.slice va bs.length vc) wr pv (bs ++ sp q)) (fun _ iv _ => N - (intOf iv).toNat)
    case atStart => exact ⟨0, Nat.zero_le _, rfl, by have e : bs ++ sp 0 = bs := List.append_nil _; rw [e]; exact HR.out⟩
    case round =>
      obtain ⟨q, hq, rfl, hg⟩ := hrel
      by_cases hqn : q < N
      · have hlz : (q : Int) < n := by omega
        have hown := hg.row.alloc (.cells #[.int .u8 32] 5)
        have hln : (bs ++ sp q).length = bs.length + q := by simp [sp]
        have cn := cells_new wr 5 [.int .u8 32]
        have hBs : B ≤ (wr.alloc (.cells #[.int .u8 32] 5)).heap.size := by have := hg.gr.size; simp; omega
        have HG := hidden hg
        rw [hln] at hown
        have q3 : bs.length + q + 1 ≤ maxLen := by unfold maxLen; omega
        have q4 : (bs.length + q + 1) * 1 ≤ 140737488355328 := by omega
        have HLN := hidden hln
        clear hg hln
        go_wp2_with (at_builtin; refine wpList_append_at _ rfl _ _ 33 rfl B 5 i5 (.int .u8 0) 1 1 Try.underlying33 hi5 hz5 hy5 hb5 rfl (by decide) _ _ _ rfl hown ⟨wr.heap.size, 0, none⟩ 1 1 [.int .u8 32] rfl rfl cn (one1 _ _) q3 q4 hBs (by decide) ?_)
        intro v' w3 hr3 hg3 hloc
        have hr4 : w3.ownsRow B 5 1 v' ((bs ++ sp q).length + 1) (bc (bs ++ sp q) ++ [.int .u8 ((32 : Nat) : Int)]) := by rw [HLN.out]; exact hr3
        have h5 := HG.out.next hr4 hg3 (hloc.imp id (fun e => ⟨wr.heap.size + 1, by omega, by rw [e]⟩))
        rw [List.append_assoc, ← sp_snoc] at h5
        have H5 := hidden h5
        clear hr3 hg3 hloc hr4 h5 hown cn
        go_wp2_with fail
        go_roundw
        case rel => exact ⟨q + 1, hqn, by go_num, H5.out⟩
        case measure => simp [intOf]; omega
      · have hqe : q = N := by omega
        have hlz : ¬ ((q : Int) < n) := by omega
        rw [hqe, ← HN.out] at hg
        have HG := hidden hg
        clear hg hqe hqn
        go_wp2_with fail
        go_ret2
        exact Or.inr ⟨HLE.out, _, rfl, HG.out⟩
end Go.Proofs.PlatenLayout
