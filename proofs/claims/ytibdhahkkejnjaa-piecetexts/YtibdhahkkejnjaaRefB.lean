/- What the document's New comes to. -/
import Derived.Test.YtibdhahkkejnjaaRefA
namespace Go.Proofs.PlatenPiece
open Go Go.RowKit
set_option linter.unusedVariables false
set_option maxRecDepth 100000

theorem info59 : (Try.prog.info? 83).map (fun i => (i.zero, i.size, i.bytes)) = some (some (.agg #[.int .u8 0, .int .i64 0, .bool false]), 3, 24) := by kernel_rfl

theorem RTab.apart {B : Nat} {w : World} {M : Nat} {lv : Value} {cs : List Rc} {N : Int} (h : RTab B w M lv cs N) : lv.ownBlock ≠ some M := by
  intro e
  rcases h.row.2 with ⟨e', _⟩ | ⟨g, cap, cur, e', _, hh, _⟩
  · rw [e'] at e; cases e
  · rw [e'] at e
    simp only [Value.ownBlock, Option.some.injEq] at e
    rw [e, h.head] at hh
    simp at hh
theorem RTab.fz {B : Nat} {w : World} {M : Nat} {lv : Value} {cs : List Rc} {N : Int} (h : RTab B w M lv cs N) (j : Nat) : w.frozen? ⟨M, j, none⟩ = false := frozen_of_row w M j _ 38 h.head

/-- A new row in the table. -/
theorem RTab.set {B : Nat} {w w1 : World} {M : Nat} {lv v' : Value} {cs cs' : List Rc} {N : Int} {o : Option Nat} (h : RTab B w M lv cs N) (hg : w.grownBy w1 o) (ho : o ≠ some M) (hr : w1.ownsRow B 83 3 v' cs'.length (rowC cs')) :
    RTab B (w1.setCell ⟨M, 0, none⟩ v') M v' cs' N ∧ w1.cell? ⟨M, 0, none⟩ = some lv ∧ w1.frozen? ⟨M, 0, none⟩ = false := by
  have hh : w1.heap[M]? = some (.cells #[lv, .int .i64 N] 38 (0, 0)) := by rw [hg.block M h.lt (fun e => ho e.symm)]; exact h.head
  refine ⟨⟨h.low, ?_, ?_⟩, by simp [World.cell?, hh], frozen_of_row w1 M 0 _ 38 hh⟩
  · rw [heap_setCell_same _ M 0 _ 38 _ hh]
    rfl
  · refine hr.kept (grownBy_set w1 M 0 v') (Or.inr ?_)
    intro e
    rcases hr.2 with ⟨e', _⟩ | ⟨g, cap, cur, e', _, hh', _⟩
    · rw [e'] at e; cases e
    · rw [e'] at e
      simp only [Value.ownBlock, Option.some.injEq] at e
      rw [e, hh] at hh'
      simp at hh'

/-- append to a row of one's own, as a step of a region that draws. -/
theorem step_append_at {P : Program} {ops : Array Oper} {o : Oper} {a : Act} {w : World} {K : Act → World → Prop} {Q : Exit → Act → World → Prop} {E : Prop} (hgd : o.guard = none) (s x : Operand) (t : TypeId)
    (hop : o.op = .call { callee := .builtin .append, args := #[s, x], argTypes := #[t, t] })
    (base : Nat) (e : TypeId) (i : TypeInfo) (z : Value) (size bytes : Nat) (ht : P.underlying t = some (.slice e)) (hi : P.info? e = some i) (hz : i.zero = some z)
    (hsize : i.size = size) (hby : i.bytes = bytes) (hzs : z.cells.size = size) (hsz : 0 < size)
    (v : Value) (n : Nat) (xs : List Value) (hs : a.eval s = v) (hown : w.ownsRow base e size v n xs)
    (ad : Addr) (m c : Nat) (news : List Value) (hx : a.eval x = .slice (some ad) m c) (hl : news.length = m * size) (hnews : ∀ j u, news[j]? = some u → w.cell? (ad.add j) = some u) (h1 : ∀ u ∈ news, u.oneCell' = true)
    (h63 : n + m ≤ maxLen) (hbytes : (n + m) * bytes ≤ 140737488355328) (hbase : base ≤ w.heap.size) (hm : 0 < m)
    (hK : ∀ v' w', Hid (w'.ownsRow base e size v' (n + m) (xs ++ news)) → Hid (w.grownBy w' v.ownBlock) → K (a.put o.dst v') w') :
    if Region.wanted o (yielded ops a.tmps) = true then Oper.wp P o a w K Q else E := by
  have hw : Region.wanted o (yielded ops a.tmps) = true := by simp [Region.wanted, hgd]
  rw [if_pos hw]
  obtain ⟨v', w', hrun, h2, h3, _⟩ := run_append_at (P := P) w base t o.type e i z size bytes ht hi hz hsize hby hzs hsz v n xs hown ad m c news hl hnews h1 h63 hbytes hbase hm
  unfold Oper.wp
  simp [execOp, hop, resolve, invoke, builtin, hs, hx, hrun, Result.andThen]
  exact hK v' w' h2 h3
theorem cells3 (X : World) (a b c : Value) : ∀ j u, [a, b, c][j]? = some u → (X.alloc (.cells #[a, b, c] 83)).cell? ((⟨X.heap.size, 0, none⟩ : Addr).add j) = some u := by
  intro j u hj
  match j, hj with
  | 0, hj => simp at hj; subst hj; simp [Addr.add]
  | 1, hj => simp at hj; subst hj; simp [Addr.add]
  | 2, hj => simp at hj; subst hj; simp [Addr.add]
  | j + 3, hj => simp at hj

theorem grown_trans {a b c : World} {o : Option Nat} (h : a.grownBy b none) (k : b.grownBy c o) : a.grownBy c o :=
  ⟨k.os.trans h.os, k.tape.trans h.tape, k.output.trans h.output, Nat.le_trans h.size k.size, fun i hi hne => (k.block i (Nat.lt_of_lt_of_le hi h.size) hne).trans (h.block i hi (by simp))⟩
theorem own_slice {w : World} {B : Nat} {e : TypeId} {s n : Nat} {v : Value} {xs : List Value} (h : w.ownsRow B e s v n xs) (h0 : 0 < n) : ∃ g cap, v = .slice (some ⟨g, 0, none⟩) n cap := by
  rcases h.2 with ⟨_, h1⟩ | ⟨g, cap, cur, e, _⟩
  · omega
  · exact ⟨_, _, e⟩
/-- One cell more. -/
theorem RTab.snoc {B k : Nat} {w0 w u w1 : World} {M : Nat} {lv v' : Value} {cs cs' : List Rc} {N n : Int} {c : Nat} {f : Bool} (h : RTab B w M lv cs N) (hu : Rl w u) (hg : u.grownBy w1 lv.ownBlock) (hlen : cs.length = k)
    (hr : w1.ownsRow B 83 3 v' (k + 1) (rowC cs ++ [.int .u8 c, .int .i64 n, .bool f])) (e : cs' = cs ++ [⟨c, n, f⟩]) (hB : Below B w0 w) (hB2 : B ≤ w.heap.size) :
    w1.cell? ⟨M, 0, none⟩ = some lv ∧ w1.frozen? ⟨M, 0, none⟩ = false ∧ Hid (RTab B (w1.setCell ⟨M, 0, none⟩ v') M v' cs' N) ∧ Hid (Below B w0 (w1.setCell ⟨M, 0, none⟩ v')) := by
  have hg' := grown_trans hu hg
  have hr' : w1.ownsRow B 83 3 v' cs'.length (rowC cs') := by
    rw [e, rowC_app, List.length_append, hlen]
    exact hr
  obtain ⟨a, b, c⟩ := h.set hg' h.apart hr'
  refine ⟨b, c, a, ?_⟩
  have h1 := hB.grown hg' hB2 (fun j hj => (h.row.lt j hj).1)
  exact h1.grown (grownBy_set w1 M 0 v') (Nat.le_trans hB2 hg'.size) (fun j hj => by
    obtain rfl : M = j := by simpa using hj
    exact h.low)

def newC (l : List Nat) : List Rc := l.mapIdx fun i c => ⟨c, 0, (i : Int) == 0⟩
theorem newC_snoc (l : List Nat) (x : Nat) : newC (l ++ [x]) = newC l ++ [⟨x, 0, (l.length : Int) == 0⟩] := by simp [newC, List.mapIdx_append]
theorem newC_len (l : List Nat) : (newC l).length = l.length := by simp [newC]

set_option maxHeartbeats 4000000 in
set_option maxRecDepth 100000 in
theorem rnew_ad (ad : Addr) (c n : Nat) (l : List Nat) (w : World) (hl : l.length = n) (hn : n ≤ 100000) (hc : ∀ j u, (bytesV l)[j]? = some u → w.cell? (ad.add j) = some u) :
    Calls Try.prog 16 #[.slice (some ad) n c] w fun e w' => e = .returned (.pointer (some ⟨w.heap.size, 0, none⟩)) ∧ (∃ lv, RTab w.heap.size w' w.heap.size lv (newC l) 0) ∧ Below w.heap.size w w' := by
  obtain ⟨i0, hi, hz0, hz1, hz2⟩ := info_parts info59
  have HG : Hid (∀ k, k < n → ∃ x : Nat, l[k]? = some x ∧ ∀ wr, Below w.heap.size w wr → wr.cell? (ad.add k) = some (.int .u8 x)) := fun k hk => by
    have hk' : k < l.length := by omega
    refine ⟨l[k], List.getElem?_eq_getElem hk', fun wr hb => ?_⟩
    have h2 := hc k _ (show (bytesV l)[k]? = some (.int .u8 (l[k] : Nat)) by simp [bytesV, List.getElem?_eq_getElem hk'])
    rw [hb.cell (p := ad.add k) (World.block_lt_of_cell? _ _ h2)]
    exact h2
  have Hl := hidden hl
  clear hc hl
  go_enter Try.func16, Try.ntmps16
  go_wp2
  go_loopw [4] (fun j wr => ∃ (k : Nat) (lv : Value), k ≤ n ∧ j = .int .i64 (k : Nat) ∧ RTab w.heap.size wr w.heap.size lv (newC (l.take k)) 0 ∧ Below w.heap.size w wr) (fun j _ => n - (intOf j).toNat)
  case atStart => exact ⟨0, .slice none 0 0, Nat.zero_le _, rfl, ⟨Nat.le_refl _, heap_alloc_new w _, World.ownsRow_nil _ _ _ _⟩, (Below.refl _ _).alloc (Nat.le_refl _) _⟩
  case round =>
    obtain ⟨k, lv, hk, rfl, hT, hnx⟩ := hrel
    by_cases hlt : k < n
    · obtain ⟨x, hx, hcx⟩ := HG.out k hlt
      have g0 := hcx wr hnx
      have g1 : ∀ o, (wr.alloc o).cell? (ad.add k) = some (.int .u8 x) := fun o => hcx _ (hnx.alloc hnx.size o)
      have g2 : ∀ o, (wr.drew.alloc o).cell? (ad.add k) = some (.int .u8 x) := fun o => g1 o
      have c0 := hT.c0
      have c1 : ∀ o, (wr.alloc o).cell? ⟨w.heap.size, 0, none⟩ = some lv := fun o => (hT.grown (grownBy_alloc wr o)).c0
      have c2 : ∀ o, (wr.drew.alloc o).cell? ⟨w.heap.size, 0, none⟩ = some lv := fun o => c1 o
      have hlen : (newC (l.take k)).length = k := by rw [newC_len, List.length_take, Hl.out]; omega
      obtain ⟨fb, hb⟩ : ∃ fb, ((k : Int) == 0) = fb := ⟨_, rfl⟩
      have HN : Hid (newC (l.take (k + 1)) = newC (l.take k) ++ [⟨x, 0, fb⟩]) := by
        unfold Hid
        rw [List.take_add_one, hx, Option.toList_some, newC_snoc, List.length_take, Hl.out, Nat.min_eq_left (by omega), hb]
      have Hown : Hid (∀ u, wr.grownBy u none → u.ownsRow w.heap.size 83 3 lv k (rowC (newC (l.take k)))) := fun u hu => by
        have := (hT.grown hu).row
        rw [hlen] at this
        exact this
      have HT := hidden hT
      have Hnx := hidden hnx
      have hkz : (k : Int) < (n : Int) := by omega
      have hsz := hnx.size
      clear hT hnx hcx hx
      go_wp2_with fail
      go_region_law (refine step_append_at rfl (.tmp 17) (.tmp 25) 36 rfl w.heap.size 83 i0 (.agg #[.int .u8 0, .int .i64 0, .bool false]) 3 24 Try.underlying36 hi hz0 hz1 hz2 rfl (by decide) lv k _ (by simp [Act.eval]) (Hown.out _ (by repeat (first | exact Rl.refl _ | apply Rl.alloc | apply Rl.drew))) ⟨wr.heap.size, 0, none⟩ 1 1 [.int .u8 x, .int .i64 0, .bool fb] (by simp [Act.eval]) rfl (cells3 _ _ _ _) (by intro u hu; simp at hu; rcases hu with rfl | rfl | rfl <;> rfl) (by unfold maxLen; omega) (by omega) (by simp; omega) (by decide) ?_; intro v' w1 hr1 hg1; have hv := own_slice hr1.out (by omega); obtain ⟨g', cap', rfl⟩ := hv; have hq := HT.out.snoc (by repeat (first | exact Rl.refl _ | apply Rl.alloc | apply Rl.drew)) hg1.out hlen hr1.out HN.out Hnx.out hsz; obtain ⟨q0, q1, q2, q3⟩ := hq)
      all_goals
        clear hr1 hg1 q0 q1 c0 c1 c2 g0 g1 g2
        go_wp2
        go_roundw
        case rel => exact ⟨k + 1, _, by omega, by go_num, q2.out, q3.out⟩
        case measure => simp [intOf]; omega
    · have hkz : ¬ ((k : Int) < (n : Int)) := by omega
      have hkn : k = n := by omega
      subst hkn
      rw [List.take_of_length_le (by rw [Hl.out]; exact Nat.le_refl _)] at hT
      have HT := hidden hT
      have Hnx := hidden hnx
      clear hT hnx
      go_wp2
      go_ret
      exact ⟨rfl, ⟨_, HT.out⟩, Hnx.out⟩

set_option maxHeartbeats 4000000 in
theorem rnew (v : Value) (l : List Nat) (w : World) (hs : Src w v l) (hn : l.length ≤ 100000) :
    Calls Try.prog 16 #[v] w fun e w' => e = .returned (.pointer (some ⟨w.heap.size, 0, none⟩)) ∧ (∃ lv, RTab w.heap.size w' w.heap.size lv (newC l) 0) ∧ Below w.heap.size w w' := by
  rcases hs with ⟨rfl, rfl⟩ | ⟨ad, cap, rfl, hc⟩
  · go_enter Try.func16, Try.ntmps16
    go_wp2
    go_loopw [4] (fun j wr => j = .int .i64 0 ∧ RTab w.heap.size wr w.heap.size (.slice none 0 0) [] 0 ∧ Below w.heap.size w wr) (fun _ _ => 0)
    case atStart => exact ⟨rfl, ⟨Nat.le_refl _, heap_alloc_new w _, World.ownsRow_nil _ _ _ _⟩, (Below.refl _ _).alloc (Nat.le_refl _) _⟩
    case round =>
      obtain ⟨rfl, hT, hnx⟩ := hrel
      have HT := hidden hT
      have Hnx := hidden hnx
      clear hT hnx
      go_wp2
      go_ret
      exact ⟨rfl, ⟨_, HT.out⟩, Hnx.out⟩
  · exact rnew_ad ad cap l.length l w rfl hn hc
end Go.Proofs.PlatenPiece
