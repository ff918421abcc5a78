/- What the document's Join and Same come to; a table behind what doesn't touch it. -/
import Derived.Test.YtibdhahkkejnjaaTabN
import Derived.Laws.AppendOwnNone
import Derived.Deep.QuietTactic
import Derived.BigQuiet
namespace Go.Proofs.PlatenPiece
open Go Go.RowKit
set_option linter.unusedVariables false
set_option maxRecDepth 100000

theorem grown_of_below {w w' : World} (h : Below w.heap.size w w') : w.grownBy w' none := ⟨h.os, h.tape, h.output, h.size, fun k hk _ => h.block k hk⟩
theorem below_app {B : Nat} {e : TypeId} {s : Nat} {w wr w1 : World} {v : Value} {n : Nat} {xs : List Value} (hB : B ≤ wr.heap.size) (hown : wr.ownsRow B e s v n xs) (hnx : Below B w wr) (hg : wr.grownBy w1 v.ownBlock) : Below B w w1 :=
  hnx.grown hg hB (fun j hj => (hown.lt j hj).1)

/-- A new row of a list of bytes. -/
def Laid (w w' : World) (v : Value) (l : List Nat) : Prop := w'.ownsRow w.heap.size 5 1 v l.length (bytesV l) ∧ Below w.heap.size w w'
theorem Laid.src {w w' : World} {v : Value} {l : List Nat} (h : Laid w w' v l) : Src w' v l := by
  have hc := fun g => h.1.cells (g := g)
  rcases h.1.2 with ⟨rfl, h0⟩ | ⟨g, cap, cur, rfl, _⟩
  · exact Or.inl ⟨rfl, List.eq_nil_of_length_eq_zero h0⟩
  · exact Or.inr ⟨_, _, rfl, hc g rfl⟩

set_option maxHeartbeats 2000000 in
theorem join_src (v v' : Value) (l l' : List Nat) (w : World) (hn : l.length ≤ 100000) (hm : l'.length ≤ 100000) (hv : Src w v l) (hv' : Src w v' l') :
    Calls Try.prog 27 #[v, v'] w fun e w' => ∃ x, e = .returned x ∧ Laid w w' x (l ++ l') := by
  obtain ⟨i0, hi, hz0, hz1, hz2⟩ := info_parts info5
  have nil0 : w.ownsRow w.heap.size 5 1 (.slice none 0 0) 0 [] := World.ownsRow_nil _ _ _ _
  rcases hv with ⟨rfl, rfl⟩ | ⟨ad, cap, rfl, hc⟩
  · rcases hv' with ⟨rfl, rfl⟩ | ⟨ad', cap', rfl, hc'⟩
    · go_enter Try.func27, Try.ntmps27
      go_wp2_with (at_builtin; refine wpList_append_own_none rfl _ _ 22 rfl w.heap.size 5 i0 1 Try.underlying22 hi _ _ _ rfl nil0 rfl ?_)
      go_ret
      exact ⟨_, rfl, nil0, Below.refl _ _⟩
    · have HC := hidden hc'
      obtain ⟨m, hlen⟩ : ∃ m, l'.length = m := ⟨_, rfl⟩
      rw [hlen] at hm ⊢
      have HLn := hidden hlen
      clear hc' hlen
      go_enter Try.func27, Try.ntmps27
      go_wp2_with (first
        | (at_builtin; refine wpList_append_own_none rfl _ _ 22 rfl w.heap.size 5 i0 1 Try.underlying22 hi _ _ _ rfl nil0 rfl ?_)
        | (at_builtin; refine wpList_append_own _ rfl _ _ 22 rfl w.heap.size 5 i0 (.int .u8 0) 1 1 Try.underlying22 hi hz0 hz1 hz2 rfl (by decide) _ _ _ rfl nil0 ad' m cap' (bytesV l') rfl ?c0 ?c1 ?c2 ?c3 ?c4 ?c5 ?_))
      case c0 => rw [bytesV_len, HLn.out, Nat.mul_one]
      case c1 => exact HC.out
      case c2 => exact bytesV_one _
      case c3 => unfold maxLen; omega
      case c4 => omega
      case c5 => exact Nat.le_refl _
      intro x w1 hown' hgrow _
      have HL : Hid (Laid w w1 x l') := ⟨by rw [HLn.out]; simpa using hown', below_app (Nat.le_refl _) nil0 (Below.refl _ _) hgrow⟩
      clear hown' hgrow
      go_wp2
      go_ret
      exact ⟨_, rfl, HL.out⟩
  · obtain ⟨n, hlen⟩ : ∃ n, l.length = n := ⟨_, rfl⟩
    rw [hlen] at hn ⊢
    have HLn := hidden hlen
    have HC0 := hidden hc
    have HC' := hidden hv'
    clear hc hv' hlen
    go_enter Try.func27, Try.ntmps27
    go_wp2_with (at_builtin; refine wpList_append_own _ rfl _ _ 22 rfl w.heap.size 5 i0 (.int .u8 0) 1 1 Try.underlying22 hi hz0 hz1 hz2 rfl (by decide) _ _ _ rfl nil0 ad n cap (bytesV l) rfl ?c0 ?c1 ?c2 ?c3 ?c4 ?c5 ?_)
    case c0 => rw [bytesV_len, HLn.out, Nat.mul_one]
    case c1 => exact HC0.out
    case c2 => exact bytesV_one _
    case c3 => unfold maxLen; omega
    case c4 => omega
    case c5 => exact Nat.le_refl _
    intro x w1 hown' hgrow _
    have hb1 := below_app (Nat.le_refl _) nil0 (Below.refl _ _) hgrow
    have own1 : w1.ownsRow w.heap.size 5 1 x n (bytesV l) := by simpa using hown'
    have sz1 := hb1.size
    rcases HC'.out.below hb1 with ⟨rfl, rfl⟩ | ⟨ad', cap', rfl, hc'⟩
    · have HL : Hid (Laid w w1 x (l ++ [])) := ⟨by rw [List.append_nil, HLn.out]; exact own1, hb1⟩
      clear hown' hgrow hb1
      go_wp2_with (at_builtin; refine wpList_append_own_none rfl _ _ 22 rfl w.heap.size 5 i0 1 Try.underlying22 hi _ _ _ rfl own1 rfl ?_)
      go_ret
      exact ⟨_, rfl, HL.out⟩
    · obtain ⟨m, hlen'⟩ : ∃ m, l'.length = m := ⟨_, rfl⟩
      rw [hlen'] at hm ⊢
      have HLm := hidden hlen'
      have HC1 := hidden hc'
      have Hb1 := hidden hb1
      clear hown' hgrow hb1 hc' hlen'
      go_wp2_with (at_builtin; refine wpList_append_own _ rfl _ _ 22 rfl w.heap.size 5 i0 (.int .u8 0) 1 1 Try.underlying22 hi hz0 hz1 hz2 rfl (by decide) _ _ _ rfl own1 ad' m cap' (bytesV l') rfl ?c0 ?c1 ?c2 ?c3 ?c4 ?c5 ?_)
      case c0 => rw [bytesV_len, HLm.out, Nat.mul_one]
      case c1 => exact HC1.out
      case c2 => exact bytesV_one _
      case c3 => unfold maxLen; omega
      case c4 => omega
      case c5 => exact sz1
      intro y w2 hown2 hgrow2 _
      have HL : Hid (Laid w w2 y (l ++ l')) := ⟨by rw [List.length_append, HLn.out, HLm.out, bytesV_app]; exact hown2, below_app sz1 own1 Hb1.out hgrow2⟩
      clear hown2 hgrow2
      go_wp2
      go_ret
      exact ⟨_, rfl, HL.out⟩

/-- A row of bytes at a block's beginning, or nothing. -/
def Row (w : World) (v : Value) (l : List Nat) : Prop := (∃ a c, v = .slice a 0 c ∧ l = []) ∨ ∃ g c, v = .slice (some ⟨g, 0, none⟩) l.length c ∧ ∀ j u, (bytesV l)[j]? = some u → w.cell? ⟨g, j, none⟩ = some u
theorem Laid.row {w w' : World} {v : Value} {l : List Nat} (h : Laid w w' v l) : Row w' v l := by
  have hc := fun g => h.1.cells (g := g)
  rcases h.1.2 with ⟨rfl, h0⟩ | ⟨g, cap, cur, rfl, _⟩
  · exact Or.inl ⟨_, _, rfl, List.eq_nil_of_length_eq_zero h0⟩
  · refine Or.inr ⟨g, _, rfl, fun j u hj => ?_⟩
    have := hc g rfl j u hj
    rwa [Addr.add_lit, Nat.zero_add] at this
theorem row_block {w : World} {g c : Nat} {l : List Nat} (h : w.heap[g]? = some (.cells (bytesV l).toArray 5 (0, 0))) : Row w (.slice (some ⟨g, 0, none⟩) l.length c) l :=
  Or.inr ⟨g, c, rfl, fun j u hj => by simp only [World.cell?, h]; simpa using hj⟩
theorem Row.below {w w' : World} {v : Value} {l : List Nat} (h : Row w v l) (hb : Below w.heap.size w w') : Row w' v l := by
  rcases h with h | ⟨g, c, hv, hc⟩
  · exact Or.inl h
  · refine Or.inr ⟨g, c, hv, fun j u hj => ?_⟩
    have h0 := hc j u hj
    rw [hb.cell (p := ⟨g, j, none⟩) (World.block_lt_of_cell? _ _ h0)]; exact h0

set_option maxHeartbeats 400000 in
theorem same_none (a a' : Option Addr) (c c' : Nat) (w : World) : Calls Try.prog 21 #[.slice a 0 c, .slice a' 0 c'] w fun e w' => e = .returned (.bool true) ∧ Below w.heap.size w w' := by
  go_enter Try.func21, Try.ntmps21
  go_wp2
  go_loop [5] (fun i => i = .int .i64 0) (fun _ => 0)
  case atStart => rfl
  case round =>
    subst hrel
    go_wp2
    go_ret
    exact ⟨rfl, Below.refl _ _⟩
set_option maxHeartbeats 1000000 in
theorem same_rows (g g' c c' n : Nat) (l : List Nat) (w : World) (hl : ∀ x ∈ l, x < 256) (hn : l.length = n) (hn2 : n ≤ 1000000)
    (hc : ∀ j u, (bytesV l)[j]? = some u → w.cell? ⟨g, j, none⟩ = some u) (hc' : ∀ j u, (bytesV l)[j]? = some u → w.cell? ⟨g', j, none⟩ = some u) :
    Calls Try.prog 21 #[.slice (some ⟨g, 0, none⟩) n c, .slice (some ⟨g', 0, none⟩) n c'] w fun e w' => e = .returned (.bool true) ∧ Below w.heap.size w w' := by
  have HG : Hid (∀ k, k < n → ∃ x : Nat, x < 256 ∧ ∀ wr, Below w.heap.size w wr → wr.cell? ⟨g, k, none⟩ = some (.int .u8 x) ∧ wr.cell? ⟨g', k, none⟩ = some (.int .u8 x)) := fun k hk => by
    have hk' : k < l.length := by omega
    refine ⟨l[k], hl _ (List.getElem_mem hk'), fun wr hb => ?_⟩
    have e : (bytesV l)[k]? = some (.int .u8 (l[k] : Nat)) := by simp [bytesV, List.getElem?_eq_getElem hk']
    have h1 := hc k _ e
    have h2 := hc' k _ e
    rw [hb.cell (p := ⟨g, k, none⟩) (World.block_lt_of_cell? _ _ h1), hb.cell (p := ⟨g', k, none⟩) (World.block_lt_of_cell? _ _ h2)]
    exact ⟨h1, h2⟩
  clear hc hc' hl hn
  go_enter Try.func21, Try.ntmps21
  go_wp2
  go_loopw [5] (fun i wr => ∃ k : Nat, k ≤ n ∧ i = .int .i64 k ∧ Below w.heap.size w wr) (fun i _ => n - (intOf i).toNat)
  case atStart => exact ⟨0, Nat.zero_le _, rfl, Below.refl _ _⟩
  case round =>
    obtain ⟨k, hk, rfl, hb⟩ := hrel
    by_cases hlt : k < n
    · obtain ⟨x, hx, hh⟩ := HG.out k hlt
      obtain ⟨g1, g2⟩ := hh wr hb
      have hkz : (k : Int) < (n : Int) := by omega
      clear hh
      go_wp2
      go_quiet (fail)
      go_wp2
      go_roundw
      case rel => exact ⟨k + 1, by omega, by go_num, by first | exact hb | exact hb.drew | exact ⟨hb.os, hb.tape, hb.output, hb.size, hb.block⟩⟩
      case measure => simp [intOf]; omega
    · have hz : ¬ ((k : Int) < (n : Int)) := by omega
      go_wp2
      go_ret
      exact ⟨rfl, hb⟩
theorem same_any (v v' : Value) (l : List Nat) (w : World) (hl : ∀ x ∈ l, x < 256) (hn : l.length ≤ 1000000) (h : Row w v l) (h' : Row w v' l) :
    Calls Try.prog 21 #[v, v'] w fun e w' => e = .returned (.bool true) ∧ Below w.heap.size w w' := by
  rcases h with ⟨a, c, rfl, rfl⟩ | ⟨g, c, rfl, hc⟩
  · rcases h' with ⟨a', c', rfl, _⟩ | ⟨g', c', rfl, hc'⟩
    · exact same_none _ _ _ _ w
    · exact same_none _ _ _ _ w
  · rcases h' with ⟨a', c', rfl, rfl⟩ | ⟨g', c', rfl, hc'⟩
    · exact same_none _ _ _ _ w
    · exact same_rows g g' c c' l.length l w hl rfl hn hc hc'

/-- A table behind a step that writes one block that isn't its own. -/
theorem Tab.but {B g : Nat} {w w' : World} {T : Nat} {pv : Value} {ps : List Pc} {s a : Int} (h : Tab B w T pv ps s a) (hg : w.grownBy w' (some g)) (hne : ¬ Own T pv ps g) : Tab B w' T pv ps s a where
  low := h.low
  head := by rw [hg.block T h.lt (by simp; exact fun e => hne (Or.inl e.symm))]; exact h.head
  row := h.row.kept hg (Or.inr (fun e => hne (Or.inr (Or.inl e))))
  good := fun p hp => ⟨(h.good p hp).1.kept hg (Or.inr (fun e => hne (Or.inr (Or.inr ⟨p, hp, e⟩)))), (h.good p hp).2⟩
  apart := h.apart
end Go.Proofs.PlatenPiece
