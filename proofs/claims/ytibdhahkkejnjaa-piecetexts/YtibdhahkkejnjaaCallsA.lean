/- What piece's own comes to; a text of bytes that may be copied; the laws' example's parts. -/
import Derived.Test.YtibdhahkkejnjaaProg
import Derived.Test.YtibdhahkkejnjaaRowA
namespace Go.Proofs.PlatenPiece
open Go Go.RowKit
set_option linter.unusedVariables false

def bytesV (l : List Nat) : List Value := l.map fun c => Value.int .u8 (c : Nat)
theorem bytesV_len (l : List Nat) : (bytesV l).length = l.length := by simp [bytesV]
theorem bytesV_app (l m : List Nat) : bytesV (l ++ m) = bytesV l ++ bytesV m := by simp [bytesV]
theorem bytesV_one (l : List Nat) : ∀ u ∈ bytesV l, u.oneCell' = true := by
  intro u hu
  obtain ⟨c, _, rfl⟩ := List.mem_map.1 hu
  rfl

/-- A slice whose bytes are l: nil, or with an address. -/
def Src (w : World) (v : Value) (l : List Nat) : Prop :=
  (v = .slice none 0 0 ∧ l = []) ∨ ∃ ad cap, v = .slice (some ad) l.length cap ∧ ∀ j u, (bytesV l)[j]? = some u → w.cell? (ad.add j) = some u

theorem Src.below {w w' : World} {v : Value} {l : List Nat} (h : Src w v l) (hb : Below w.heap.size w w') : Src w' v l := by
  rcases h with h | ⟨ad, cap, hv, hc⟩
  · exact Or.inl h
  · refine Or.inr ⟨ad, cap, hv, fun j u hj => ?_⟩
    have := hc j u hj
    rw [hb.cell (p := ad.add j) (World.block_lt_of_cell? _ _ this)]
    exact this

theorem info3 : (Try.prog.info? 3).map (fun i => (i.zero, i.size, i.bytes)) = some (some (.int .i64 0), 1, 8) := by kernel_rfl
theorem info5 : (Try.prog.info? 5).map (fun i => (i.zero, i.size, i.bytes)) = some (some (.int .u8 0), 1, 1) := by kernel_rfl
theorem info57 : (Try.prog.info? 81).map (fun i => (i.zero, i.size, i.bytes)) = some (some (.agg #[.slice none 0 0, .int .i64 0]), 2, 32) := by kernel_rfl
theorem size5 : (Try.prog.info? 5).map (·.size) = some 1 := by kernel_rfl
theorem size57 : (Try.prog.info? 81).map (·.size) = some 2 := by kernel_rfl

theorem below_of_grown {w w' : World} (h : w.grownBy w' none) : Below w.heap.size w w' := ⟨h.os, h.tape, h.output, h.size, fun k hk => h.block k hk (by simp)⟩

set_option maxHeartbeats 1000000 in
theorem own_any (v : Value) (l : List Nat) (w : World) (hl : l.length ≤ 1000000) (hs : Src w v l) :
    Calls Try.prog 44 #[v] w fun e w' => e = .returned (.slice (some ⟨w.heap.size, 0, none⟩) l.length l.length) ∧
      w'.heap[w.heap.size]? = some (.cells (bytesV l).toArray 5 (0, 0)) ∧ w.grownBy w' none := by
  obtain ⟨i0, hi, hz0, hz1, hz2⟩ := info_parts info5
  have HS := hidden hs
  have hlen : ∃ va vc, v = .slice va l.length vc := by
    rcases hs with ⟨rfl, rfl⟩ | ⟨ad, cap, rfl, _⟩
    · exact ⟨_, _, rfl⟩
    · exact ⟨_, _, rfl⟩
  obtain ⟨va, vc, rfl⟩ := hlen
  clear hs
  obtain ⟨n, hn⟩ : ∃ n, l.length = n := ⟨_, rfl⟩
  have HN := hidden hn
  rw [hn] at hl
  rw [hn]
  clear hn
  go_enter Try.func44, Try.ntmps44
  go_wp2_with (at_make; refine wpList_make_full _ rfl _ _ 22 rfl w.heap.size 5 i0 (.int .u8 0) 1 Try.underlying22 hi hz0 hz1 _ _ _ _ n rfl rfl rfl rfl ?c1 ?c2 ?c3 ?_)
  case c1 => rw [hz2]; omega
  case c2 => unfold maxLen; omega
  case c3 => exact Nat.le_refl _
  intro w1 hown hgr
  obtain ⟨_, hown⟩ := hown
  rcases hown with ⟨h0, _⟩ | ⟨g, cap, cur, hv, _, hh, _, _, hcs, _⟩
  · cases h0
  simp only [Value.slice.injEq, Option.some.injEq, Addr.mk.injEq, and_true, true_and] at hv
  obtain ⟨rfl, rfl⟩ := hv
  have hb1 := below_of_grown hgr
  have HS1 := hidden (HS.out.below hb1)
  have hcl : cur.toList.length = n := by simp [hcs]
  have Hh : Hid (w1.heap[w.heap.size]? = some (.cells cur.toList.toArray 5 (0, 0))) := by unfold Hid; rw [Array.toArray_toList]; exact hh
  have Hgr := hidden hgr
  clear hh hgr hb1
  go_wp2_with (refine wpList_copy_k _ rfl _ _ 22 22 rfl 5 1 Try.underlying22 size5 (by decide) _ _ _ _ _ _ rfl rfl w.heap.size 0 cur.toList 5 Hh.out (bytesV l) ?d1 ?d2 ?d3 ?d4 ?_)
  case d1 => rw [bytesV_len, HN.out]; simp
  case d2 =>
    intro hp
    try refine ⟨rfl, ?_⟩
    rcases HS1.out with ⟨he, h0⟩ | ⟨ad, c', he, hc⟩
    · rw [h0] at hp; simp [bytesV] at hp
    · simp only [Value.slice.injEq] at he
      exact ⟨ad, he.1, hc⟩
  case d3 => rw [bytesV_len, HN.out, hcl]; omega
  case d4 => exact bytesV_one l
  intro w2 Hh2 Hg2
  have Hfin : Hid (w2.heap[w.heap.size]? = some (.cells (bytesV l).toArray 5 (0, 0)) ∧ w.grownBy w2 none) := by
    refine ⟨?_, ?_⟩
    · rw [Hh2.out]
      have : splice cur.toList 0 (bytesV l) = bytesV l := by
        unfold splice
        rw [List.drop_of_length_le (by rw [bytesV_len, HN.out, hcl]; omega)]
        simp
      rw [this]
    · have a := Hgr.out
      have b := Hg2.out
      exact ⟨b.os.trans a.os, b.tape.trans a.tape, b.output.trans a.output, Nat.le_trans a.size b.size, fun k hk hne => (b.block k (Nat.lt_of_lt_of_le hk a.size) (by simp; omega)).trans (a.block k hk hne)⟩
  clear Hh2 Hg2
  go_wp2
  go_ret
  exact ⟨rfl, Hfin.out⟩
end Go.Proofs.PlatenPiece
