/- The document's Back, Put, Fits, Do. -/
import Derived.Test.YtibdhahkkejnjaaPuA
import Derived.Lib.AppendStr
namespace Go.Proofs.PlatenPiece
open Go Go.RowKit
set_option linter.unusedVariables false
set_option maxRecDepth 100000

set_option maxHeartbeats 2000000 in
theorem rback (at' : Int) (o n : ByteArray) (w : World) :
    Calls Try.prog 31 #[.agg #[.int .i64 at', .string o, .string n]] w fun e w' => e = .returned (.agg #[.int .i64 at', .string n, .string o]) ∧ Below w.heap.size w w' := by
  go_enter Try.func31, Try.ntmps31
  go_wp2_with fail
  refine bodyPost_ret (results_cell_row rfl _ _ (w.heap.size + 1) 57 #[.int .i64 at', .string n, .string o] (0, 0) _ rfl (by rw [show w.heap.size + 1 = (w.alloc (.cells #[.int .i64 at', .string o, .string n] 57)).heap.size by simp]; exact heap_alloc_new _ _) Try.underlying57 rfl size57e) rfl ⟨rfl, ((Below.refl _ _).alloc (Nat.le_refl _) _).alloc (by simp) _⟩

/-- A row of bytes grows, and a block of another type stands. -/
theorem box_stands {wr w1 : World} {B b : Nat} {x : Array Value} {v : Value} {n : Nat} {xs : List Value} (hb : wr.heap[b]? = some (.cells x 57 (0, 0))) (hown : wr.ownsRow B 5 1 v n xs) (hg : wr.grownBy w1 v.ownBlock) : w1.heap[b]? = some (.cells x 57 (0, 0)) :=
  (hg.block b (Array.getElem?_eq_some_iff.1 hb).1 (fun e => row_head hown hb (by decide) e.symm)).trans hb
theorem strV (s : ByteArray) : Lib.strCells s = bytesV (bts s) := by
  simp [Lib.strCells, bytesV, bts, List.map_map, Function.comp_def]
theorem laid_more {w wr w1 : World} {v v' : Value} {l m : List Nat} {n k : Nat} {xs ys : List Value} (h : Laid w wr v l) (hn : l.length = n) (hk : m.length = k) (hx : bytesV l = xs) (hy : bytesV m = ys) (hown : w1.ownsRow w.heap.size 5 1 v' (n + k) (xs ++ ys)) (hg : wr.grownBy w1 v.ownBlock) : Laid w w1 v' (l ++ m) :=
  ⟨by rw [List.length_append, bytesV_app, hn, hk, hx, hy]; exact hown, below_app h.2.size h.1 h.2 hg⟩

set_option maxHeartbeats 4000000 in
theorem rput_nil (o nw : ByteArray) (w : World) (ho : o.size = 0) (hnw : nw.size ≤ 100000) :
    Calls Try.prog 62 #[.slice none 0 0, .agg #[.int .i64 0, .string o, .string nw]] w fun q w' => ∃ x, q = .returned x ∧ Laid w w' x (bts nw) := by
  obtain ⟨i0, hi, hz0, hz1, hz2⟩ := info_parts info5
  have hb0 : Below w.heap.size w (w.alloc (.cells #[.int .i64 0, .string o, .string nw] 57)) := (Below.refl _ _).alloc (Nat.le_refl _) _
  have hbx : (w.alloc (.cells #[.int .i64 0, .string o, .string nw] 57)).heap[w.heap.size]? = some (.cells #[.int .i64 0, .string o, .string nw] 57 (0, 0)) := heap_alloc_new _ _
  have nil0 : (w.alloc (.cells #[.int .i64 0, .string o, .string nw] 57)).ownsRow w.heap.size 5 1 (.slice none 0 0) 0 [] := World.ownsRow_nil _ _ _ _
  have HL0 : Hid (Laid w (w.alloc (.cells #[.int .i64 0, .string o, .string nw] 57)) (.slice none 0 0) []) := ⟨nil0, hb0⟩
  have sz0 := hb0.size
  have Hbx := hidden hbx
  have Hnil := hidden nil0
  clear hb0 hbx nil0
  go_enter Try.func62, Try.ntmps62
  go_wp2_with (first
    | (at_builtin; refine wpList_append_own_none rfl _ _ 22 rfl w.heap.size 5 i0 1 Try.underlying22 hi _ _ _ rfl Hnil.out rfl ?_)
    | (at_builtin; refine Lib.wpList_append_own_string _ rfl _ _ 22 9 rfl w.heap.size 5 i0 Try.underlying22 Try.underlying9 hi hz0 hz1 hz2 _ _ _ rfl Hnil.out nw rfl ?e1 ?e2 ?e3 ?_))
  case e1 => unfold maxLen; omega
  case e2 => omega
  case e3 => exact sz0
  intro x w2 hown2 hgrow2 _
  have hbx2 := box_stands Hbx.out Hnil.out hgrow2
  have b0 : w2.cell? ⟨w.heap.size, 0, none⟩ = some (.int .i64 0) := by simp only [World.cell?, hbx2]; rfl
  have b1 : w2.cell? ⟨w.heap.size, 1, none⟩ = some (.string o) := by simp only [World.cell?, hbx2]; rfl
  have HL : Hid (Laid w w2 x (bts nw)) := ⟨by rw [bts_len, ← strV]; exact hown2, below_app sz0 Hnil.out HL0.out.2 hgrow2⟩
  obtain ⟨xa, xc, rfl⟩ := row_slice hown2
  have own2 := HL.out.1
  rw [bts_len] at own2
  clear hown2 hgrow2 hbx2 Hbx HL0 sz0
  go_wp2_with (at_builtin; refine wpList_append_own_none rfl _ _ 22 rfl w.heap.size 5 i0 1 Try.underlying22 hi _ _ _ rfl own2 rfl ?_)
  go_ret
  exact ⟨_, rfl, HL.out⟩

set_option maxHeartbeats 4000000 in
theorem rput_some (g n cap B : Nat) (l : List Nat) (a : Nat) (o nw : ByteArray) (w : World) (hv : w.ownsRow B 5 1 (.slice (some ⟨g, 0, none⟩) n cap) n (bytesV l)) (hn : n ≤ 65536) (h1 : a + o.size ≤ n) (hnw : nw.size ≤ 100000) :
    Calls Try.prog 62 #[.slice (some ⟨g, 0, none⟩) n cap, .agg #[.int .i64 a, .string o, .string nw]] w fun q w' => ∃ x, q = .returned x ∧ Laid w w' x (l.take a ++ (bts nw ++ l.drop (a + o.size))) := by
  obtain ⟨i0, hi, hz0, hz1, hz2⟩ := info_parts info5
  have hln : l.length = n := by have := hv.1; rw [bytesV_len] at this; omega
  have hcap : n ≤ cap := by
    rcases hv.2 with ⟨e, _⟩ | ⟨g', cap', cur, e, _, _, h2, _⟩
    · cases e
    · simp only [Value.slice.injEq] at e
      obtain ⟨_, _, rfl⟩ := e
      exact h2
  have hcs := hv.cells (g := g) rfl
  have hgl := (own_lt_row hv (k := g) rfl).2
  have HC : Hid (∀ wr, Below w.heap.size w wr → ∀ j u, (bytesV l)[j]? = some u → wr.cell? ⟨g, j, none⟩ = some u) := fun wr hb j u hj => by
    have := hcs j u hj
    rw [Addr.add_lit, Nat.zero_add] at this
    rw [hb.cell (p := ⟨g, j, none⟩) hgl]
    exact this
  have hb0 : Below w.heap.size w (w.alloc (.cells #[.int .i64 a, .string o, .string nw] 57)) := (Below.refl _ _).alloc (Nat.le_refl _) _
  have hbx : (w.alloc (.cells #[.int .i64 a, .string o, .string nw] 57)).heap[w.heap.size]? = some (.cells #[.int .i64 a, .string o, .string nw] 57 (0, 0)) := heap_alloc_new _ _
  have nil0 : (w.alloc (.cells #[.int .i64 a, .string o, .string nw] 57)).ownsRow w.heap.size 5 1 (.slice none 0 0) 0 [] := World.ownsRow_nil _ _ _ _
  have HL0 : Hid (Laid w (w.alloc (.cells #[.int .i64 a, .string o, .string nw] 57)) (.slice none 0 0) []) := ⟨nil0, hb0⟩
  have sz0 := hb0.size
  have Hbx := hidden hbx
  have Hnil := hidden nil0
  obtain ⟨os, hos⟩ : ∃ os, o.size = os := ⟨_, rfl⟩
  rw [hos] at h1 ⊢
  have t1 : (l.take a).length = a := by rw [List.length_take]; omega
  have t2 : (l.drop (a + os)).length = n - (a + os) := by rw [List.length_drop]; omega
  have hac : (a : Int) ≤ (cap : Int) := by omega
  have hanc : (a : Int) + (os : Int) ≤ (n : Int) := by omega
  have q1 : IntKind.i64.wrap ((a : Int) + (os : Int)) = ((a + os : Nat) : Int) := by push_cast; exact IntWalk.i64_in _ (by omega)
  have Ht1 := hidden t1
  have Ht2 := hidden t2
  have N1 : Hid (∀ j u, (bytesV (l.take a))[j]? = some u → (w.alloc (.cells #[.int .i64 a, .string o, .string nw] 57)).cell? ((⟨g, 0, none⟩ : Addr).add j) = some u) := fun j u hj => by
    rw [Addr.add_lit, Nat.zero_add]
    refine HC.out _ hb0 j u ?_
    unfold bytesV at hj ⊢
    rw [List.map_take, List.getElem?_take] at hj
    split at hj
    · exact hj
    · cases hj
  have N2 : Hid (∀ wr, Below w.heap.size w wr → ∀ j u, (bytesV (l.drop (a + os)))[j]? = some u → wr.cell? ((⟨g, a + os, none⟩ : Addr).add j) = some u) := fun wr hb j u hj => by
    rw [Addr.add_lit]
    refine HC.out _ hb _ u ?_
    unfold bytesV at hj ⊢
    rw [List.map_drop, List.getElem?_drop] at hj
    exact hj
  clear hv hcs hgl HC hb0 hbx nil0 t1 t2
  go_enter Try.func62, Try.ntmps62
  go_wp2_with (at_builtin; refine wpList_append_own _ rfl _ _ 22 rfl w.heap.size 5 i0 (.int .u8 0) 1 1 Try.underlying22 hi hz0 hz1 hz2 rfl (by decide) _ _ _ rfl Hnil.out ⟨g, 0, none⟩ a cap (bytesV (l.take a)) rfl ?c0 N1.out (bytesV_one _) ?c3 ?c4 ?c5 ?_)
  case c0 => rw [bytesV_len, Ht1.out, Nat.mul_one]
  case c3 => unfold maxLen; omega
  case c4 => omega
  case c5 => exact sz0
  intro x1 w1 hown1 hgrow1 _
  have HL1 : Hid (Laid w w1 x1 (l.take a)) := ⟨by rw [Ht1.out]; simpa using hown1, below_app sz0 Hnil.out HL0.out.2 hgrow1⟩
  have hbx1 := box_stands Hbx.out Hnil.out hgrow1
  have Hbx1 := hidden hbx1
  have b2 : w1.cell? ⟨w.heap.size, 2, none⟩ = some (.string nw) := by simp only [World.cell?, hbx1]; rfl
  obtain ⟨xa, xc, rfl⟩ := row_slice hown1
  have own1 := HL1.out.1
  rw [Ht1.out] at own1
  have sz1 := HL1.out.2.size
  clear hown1 hgrow1 hbx1 Hbx HL0 sz0 Hnil N1
  go_wp2_with (at_builtin; refine Lib.wpList_append_own_string _ rfl _ _ 22 9 rfl w.heap.size 5 i0 Try.underlying22 Try.underlying9 hi hz0 hz1 hz2 _ _ _ rfl own1 nw rfl ?e1 ?e2 ?e3 ?_)
  case e1 => unfold maxLen; omega
  case e2 => omega
  case e3 => exact sz1
  intro x2 w2 hown2 hgrow2 _
  have HL2 : Hid (Laid w w2 x2 (l.take a ++ bts nw)) := laid_more HL1.out Ht1.out (bts_len nw) rfl (strV nw).symm hown2 hgrow2
  have hbx2 := box_stands Hbx1.out own1 hgrow2
  have b0 : w2.cell? ⟨w.heap.size, 0, none⟩ = some (.int .i64 a) := by simp only [World.cell?, hbx2]; rfl
  have b1 : w2.cell? ⟨w.heap.size, 1, none⟩ = some (.string o) := by simp only [World.cell?, hbx2]; rfl
  obtain ⟨ya, yc, rfl⟩ := row_slice hown2
  have len2 : (l.take a ++ bts nw).length = a + nw.size := by rw [List.length_append, Ht1.out, bts_len]
  have own2 := HL2.out.1
  rw [len2] at own2
  have Hlen2 := hidden len2
  have sz2 := HL2.out.2.size
  have N3 := hidden (N2.out w2 HL2.out.2)
  clear hown2 hgrow2 hbx2 Hbx1 HL1 sz1 own1 N2 b2 len2
  have hk1 : ((a + os : Nat) : Int) ≤ (n : Int) := by omega
  by_cases hce : cap = a + os
  · have hd0 : l.drop (a + os) = [] := List.drop_of_length_le (by omega)
    have hn0 : n = a + os := by omega
    have Hd0 := hidden hd0
    subst hn0
    subst hce
    clear hd0
    go_wp2_with (at_builtin; refine wpList_append_own _ rfl _ _ 22 rfl w.heap.size 5 i0 (.int .u8 0) 1 1 Try.underlying22 hi hz0 hz1 hz2 rfl (by decide) _ _ _ rfl own2 ⟨g, 0, none⟩ 0 0 [] (by simp [Act.eval]) rfl ?c1 ?c2 ?c3 ?c4 ?c5 ?_)
    case c1 => intro j u hj; simp at hj
    case c2 => intro u hu; simp at hu
    case c3 => unfold maxLen; omega
    case c4 => omega
    case c5 => exact sz2
    intro x3 w3 hown3 hgrow3 _
    have HL3 : Hid (Laid w w3 x3 (l.take a ++ (bts nw ++ l.drop (a + os)))) := by
      rw [Hd0.out, List.append_nil]
      exact ⟨by rw [Hlen2.out]; simpa using hown3, below_app sz2 own2 HL2.out.2 hgrow3⟩
    obtain ⟨za, zc, rfl⟩ := row_slice hown3
    clear hown3 hgrow3
    go_wp2
    go_ret
    exact ⟨_, rfl, HL3.out⟩
  · have hce' : ¬ (cap : Int) = ((a + os : Nat) : Int) := by omega
    go_wp2_with (at_builtin; refine wpList_append_own _ rfl _ _ 22 rfl w.heap.size 5 i0 (.int .u8 0) 1 1 Try.underlying22 hi hz0 hz1 hz2 rfl (by decide) _ _ _ rfl own2 ⟨g, a + os, none⟩ (n - (a + os)) (cap - (a + os)) (bytesV (l.drop (a + os))) rfl ?c0 N3.out (bytesV_one _) ?c3 ?c4 ?c5 ?_)
    case c0 => rw [bytesV_len, Ht2.out, Nat.mul_one]
    case c3 => unfold maxLen; omega
    case c4 => omega
    case c5 => exact sz2
    intro x3 w3 hown3 hgrow3 _
    have HL3 : Hid (Laid w w3 x3 (l.take a ++ bts nw ++ l.drop (a + os))) := laid_more HL2.out Hlen2.out Ht2.out rfl rfl hown3 hgrow3
    rw [List.append_assoc] at HL3
    obtain ⟨za, zc, rfl⟩ := row_slice hown3
    clear hown3 hgrow3
    go_wp2
    go_ret
    exact ⟨_, rfl, HL3.out⟩
end Go.Proofs.PlatenPiece

namespace Go.Proofs.PlatenPiece
open Go Go.RowKit
set_option linter.unusedVariables false
set_option maxRecDepth 100000

theorem bts_at (o : ByteArray) (k : Nat) (h : k < o.size) : (bts o)[k]? = some ((o[k]'h).toNat) := by
  have h' : k < o.data.size := h
  unfold bts
  rw [List.getElem?_map, Array.getElem?_toList, Array.getElem?_eq_getElem h']
  rfl

set_option maxHeartbeats 2000000 in
theorem rfits_no (va : Option Addr) (n vc : Nat) (at' : Int) (o nw : ByteArray) (w : World) (hn : n ≤ 65536) (ho : o.size ≤ 100000) (hno : ¬ (0 ≤ at' ∧ at' + (o.size : Int) ≤ (n : Int))) :
    Calls Try.prog 61 #[.slice va n vc, .agg #[.int .i64 at', .string o, .string nw]] w fun q w' => q = .returned (.bool false) ∧ Below w.heap.size w w' := by
  have hb0 : Below w.heap.size w (w.alloc (.cells #[.int .i64 at', .string o, .string nw] 57)) := (Below.refl _ _).alloc (Nat.le_refl _) _
  obtain ⟨os, hos⟩ : ∃ os, o.size = os := ⟨_, rfl⟩
  rw [hos] at ho hno
  by_cases h1 : at' < 0
  · clear hno
    go_enter Try.func61, Try.ntmps61
    go_wp2
    go_ret
    exact ⟨rfl, hb0⟩
  · by_cases h2 : (n : Int) < at'
    · clear hno
      go_enter Try.func61, Try.ntmps61
      go_wp2
      go_ret
      exact ⟨rfl, hb0⟩
    · have h3 : (n : Int) - at' < (os : Int) := by omega
      have q1 : IntKind.i64.wrap ((n : Int) - at') = (n : Int) - at' := IntWalk.i64_in _ (by omega)
      clear hno
      go_enter Try.func61, Try.ntmps61
      go_wp2
      go_ret
      exact ⟨rfl, hb0⟩

set_option maxHeartbeats 2000000 in
theorem rfits_in (v : Value) (l : List Nat) (B n a os : Nat) (o nw : ByteArray) (w : World) (hv : w.ownsRow B 5 1 v n (bytesV l)) (hlt : ∀ c ∈ l, c < 256) (hn : n ≤ 65536) (hos : o.size = os) (ho : os ≤ 100000) (hin : a + os ≤ n) :
    Calls Try.prog 61 #[v, .agg #[.int .i64 a, .string o, .string nw]] w fun q w' => ∃ r, q = .returned (.bool r) ∧ (r = true ↔ (l.drop a).take os = bts o) ∧ Below w.heap.size w w' := by
  have hln : l.length = n := by have := hv.1; rw [bytesV_len] at this; omega
  have hb0 : Below w.heap.size w (w.alloc (.cells #[.int .i64 a, .string o, .string nw] 57)) := (Below.refl _ _).alloc (Nat.le_refl _) _
  have hbx : (w.alloc (.cells #[.int .i64 a, .string o, .string nw] 57)).heap[w.heap.size]? = some (.cells #[.int .i64 a, .string o, .string nw] 57 (0, 0)) := heap_alloc_new _ _
  have HG : Hid (∀ k, k < os → ∃ (g : Nat) (cap : Nat) (x : Nat), v = .slice (some ⟨g, 0, none⟩) n cap ∧ l[a + k]? = some x ∧ x < 256 ∧ ∀ wr, Below w.heap.size w wr → wr.cell? ⟨g, a + k, none⟩ = some (.int .u8 x)) := fun k hk => by
    obtain ⟨g, cap, rfl⟩ := own_some hv (by omega)
    have hk' : a + k < l.length := by omega
    refine ⟨g, cap, l[a + k], rfl, List.getElem?_eq_getElem hk', hlt _ (List.getElem_mem hk'), fun wr hb => ?_⟩
    have h2 := hv.cells (g := g) rfl (a + k) (.int .u8 (l[a + k] : Nat)) (by simp [bytesV, List.getElem?_eq_getElem hk'])
    rw [Addr.add_lit, Nat.zero_add] at h2
    rw [hb.cell (p := ⟨g, a + k, none⟩) (World.block_lt_of_cell? _ _ h2)]
    exact h2
  obtain ⟨va, vc, rfl⟩ := row_slice hv
  have Hb0 := hidden hb0
  have Hbx := hidden hbx
  have e1 : ¬ ((a : Int) < 0) := by omega
  have e2 : ¬ ((n : Int) < (a : Int)) := by omega
  have e3 : ¬ ((n : Int) - (a : Int) < (os : Int)) := by omega
  have q1 : IntKind.i64.wrap ((n : Int) - (a : Int)) = (n : Int) - (a : Int) := IntWalk.i64_in _ (by omega)
  clear hv hb0 hbx hlt
  go_enter Try.func61, Try.ntmps61
  go_wp2
  go_loopw [5] (fun i wr => ∃ k : Nat, k ≤ os ∧ i = .int .i64 k ∧ Below w.heap.size w wr ∧ wr.heap[w.heap.size]? = some (.cells #[.int .i64 a, .string o, .string nw] 57 (0, 0)) ∧ (l.drop a).take k = (bts o).take k) (fun i _ => os - (intOf i).toNat)
  case atStart => exact ⟨0, Nat.zero_le _, rfl, Hb0.out, Hbx.out, by simp⟩
  case round =>
    obtain ⟨k, hk, rfl, hb, hx, heq⟩ := hrel
    have b0 : wr.cell? ⟨w.heap.size, 0, none⟩ = some (.int .i64 a) := by simp only [World.cell?, hx]; rfl
    have b1 : wr.cell? ⟨w.heap.size, 1, none⟩ = some (.string o) := by simp only [World.cell?, hx]; rfl
    by_cases hlt : k < os
    · obtain ⟨g, cap, x, hvv, hlx, hx256, hcell⟩ := HG.out k hlt
      simp only [Value.slice.injEq, true_and] at hvv
      obtain ⟨rfl, rfl⟩ := hvv
      have hc := hcell wr hb
      have hkz : (k : Int) < (os : Int) := by omega
      have q2 : IntKind.i64.wrap ((a : Int) + (k : Int)) = ((a + k : Nat) : Int) := by push_cast; exact IntWalk.i64_in _ (by omega)
      have hkn : ((a + k : Nat) : Int) < (n : Int) := by omega
      have hko : k < o.size := by omega
      obtain ⟨y, hy⟩ : ∃ y : Nat, (o[k]'hko).toNat = y := ⟨_, rfl⟩
      have hby : (bts o)[k]? = some y := by rw [bts_at o k hko, hy]
      have hbx : (l.drop a)[k]? = some x := by rw [List.getElem?_drop]; exact hlx
      have Hby := hidden hby
      have Hbx' := hidden hbx
      have Heq := hidden heq
      have Hb := hidden hb
      have Hx := hidden hx
      clear hcell hby hbx heq hb hx hlx
      by_cases hxy : x = y
      · subst hxy
        go_wp2
        go_quiet (fail)
        go_wp2
        go_roundw
        case rel =>
          refine ⟨k + 1, by omega, by go_num, ⟨Hb.out.os, Hb.out.tape, Hb.out.output, Hb.out.size, Hb.out.block⟩, Hx.out, ?_⟩
          rw [List.take_add_one, List.take_add_one, Heq.out, Hby.out, Hbx'.out]
        case measure => simp [intOf]; omega
      · have hxy' : ¬ ((x : Int) = (y : Int)) := by omega
        have Hxy := hidden hxy
        clear hxy
        go_wp2
        go_quiet (fail)
        go_wp2
        go_ret
        refine ⟨false, rfl, ⟨fun h => absurd h (by decide), fun h => absurd ?_ Hxy.out⟩, ⟨Hb.out.os, Hb.out.tape, Hb.out.output, Hb.out.size, Hb.out.block⟩⟩
        have h2 := Hby.out
        rw [← h, List.getElem?_take, if_pos hlt, Hbx'.out] at h2
        simpa using h2
    · have hkz : ¬ ((k : Int) < (os : Int)) := by omega
      obtain rfl : k = os := by omega
      have Heq := hidden heq
      have Hb := hidden hb
      clear heq hb hx
      go_wp2
      go_ret
      refine Or.inr ⟨rfl, ?_, Hb.out⟩
      rw [Heq.out, List.take_of_length_le (by rw [bts_len]; omega)]

theorem rfits {v : Value} {l : List Nat} {B : Nat} {w : World} (e : Ed) (hv : w.ownsRow B 5 1 v l.length (bytesV l)) (hlt : ∀ c ∈ l, c < 256) (hl : l.length ≤ 65536) :
    Calls Try.prog 61 #[v, .agg #[.int .i64 e.at', .string e.old, .string e.new]] w fun q w' => ∃ r, q = .returned (.bool r) ∧ (r = true ↔ fitsL l e) ∧ Below w.heap.size w w' := by
  have ho := e.ho
  by_cases hy : 0 ≤ e.at' ∧ e.at' + (e.old.size : Int) ≤ (l.length : Int)
  · obtain ⟨a, ha⟩ : ∃ a : Nat, e.at' = a := ⟨e.at'.toNat, by omega⟩
    rw [ha]
    refine (rfits_in v l B l.length a e.old.size e.old e.new w hv hlt hl rfl ho (by omega)).mono ?_
    rintro q w' ⟨r, rfl, hr, hb⟩
    refine ⟨r, rfl, hr.trans ?_, hb⟩
    unfold fitsL
    rw [ha]
    simp only [Int.toNat_natCast]
    exact ⟨fun h => ⟨by omega, by omega, h⟩, fun h => h.2.2⟩
  · obtain ⟨va, vc, rfl⟩ := row_slice hv
    refine (rfits_no va l.length vc e.at' e.old e.new w hl ho hy).mono ?_
    rintro q w' ⟨rfl, hb⟩
    exact ⟨false, rfl, ⟨fun h => absurd h (by decide), fun h => absurd ⟨h.1, h.2.1⟩ hy⟩, hb⟩
theorem rput {v : Value} {l : List Nat} {B : Nat} {w : World} (e : Ed) (hv : w.ownsRow B 5 1 v l.length (bytesV l)) (hl : l.length ≤ 65536) (hy : 0 ≤ e.at' ∧ e.at' + (e.old.size : Int) ≤ (l.length : Int)) :
    Calls Try.prog 62 #[v, .agg #[.int .i64 e.at', .string e.old, .string e.new]] w fun q w' => ∃ x, q = .returned x ∧ Laid w w' x (putL l e) := by
  obtain ⟨a, ha⟩ : ∃ a : Nat, e.at' = a := ⟨e.at'.toNat, by omega⟩
  unfold putL
  rw [ha] at hy ⊢
  simp only [Int.toNat_natCast]
  rcases Nat.eq_zero_or_pos l.length with h0 | h0
  · obtain rfl := List.length_eq_zero_iff.1 h0
    obtain ⟨va, vc, rfl⟩ := row_slice hv
    rcases hv.2 with ⟨e1, _⟩ | ⟨g, cap, cur, e1, _⟩
    · rw [e1]
      simp only [List.length_nil] at hy
      obtain rfl : a = 0 := by omega
      have := rput_nil e.old e.new w (by omega) e.hn
      simpa using this
    · simp only [List.length_nil] at e1 hv hy ⊢
      rw [e1] at hv ⊢
      exact rput_some g 0 cap B [] a e.old e.new w hv (by omega) (by omega) e.hn
  · obtain ⟨g, cap, rfl⟩ := own_some hv h0
    exact rput_some g l.length cap B l a e.old e.new w hv hl (by omega) e.hn
end Go.Proofs.PlatenPiece

namespace Go.Proofs.PlatenPiece
open Go Go.RowKit
set_option linter.unusedVariables false
set_option maxRecDepth 100000

/-- The document's past, in a world that has come of w0: nothing but X's blocks has changed since. -/
structure RX (B : Nat) (w0 : World) (X : Nat → Prop) (M : Nat) (w : World) (l : List Nat) (pv dv gv nv : Value) (now : List Ed) (dn gn : List (Value × List Ed)) : Prop where
  kept : Kept X w0 w
  rp : RP B w M l pv dv gv nv now dn gn
  sub : ∀ k, k < w0.heap.size → ROwn M pv dv gv nv dn gn k → X k

section
variable {B : Nat} {w0 w w' w3 : World} {X : Nat → Prop} {M : Nat} {l l' : List Nat} {pv dv gv nv pv' dv' gv' nv' : Value} {now now' : List Ed} {dn gn dn' gn' : List (Value × List Ed)}
theorem RX.grown (h : RX B w0 X M w l pv dv gv nv now dn gn) (hg : w.grownBy w' none) : RX B w0 X M w' l pv dv gv nv now dn gn := ⟨h.kept.trans (O' := X) (kept_none hg) (fun _ _ h => h), h.rp.grown hg, h.sub⟩
theorem RX.wide (h : RX B w0 X M w l pv dv gv nv now dn gn) : ∀ k, k < w.heap.size → ROwn M pv dv gv nv dn gn k → (fun k => X k ∨ w0.heap.size ≤ k) k := fun k hk ho => by
  rcases Nat.lt_or_ge k w0.heap.size with h1 | h1
  · exact Or.inl (h.sub k h1 ho)
  · exact Or.inr h1
theorem RX.of (h : RX B w0 X M w l pv dv gv nv now dn gn) (hr : RP B w' M l' pv' dv' gv' nv' now' dn' gn') (hk : Kept (fun k => X k ∨ w0.heap.size ≤ k) w w') (hs : ∀ k, k < w.heap.size → ROwn M pv' dv' gv' nv' dn' gn' k → (fun k => X k ∨ w0.heap.size ≤ k) k) : RX B w0 X M w' l' pv' dv' gv' nv' now' dn' gn' :=
  ⟨h.kept.trans hk (fun i hi ho => by rcases ho with ho | ho; exact ho; omega), hr, fun k hk ho => by rcases hs k (Nat.lt_of_lt_of_le hk h.kept.size) ho with q | q; exact q; omega⟩
theorem RX.setP (h : RX B w0 X M w l pv dv gv nv now dn gn) (hg : w.grownBy w3 none) (hp : w3.ownsRow w.heap.size 5 1 pv' l'.length (bytesV l')) : RX B w0 X M (w3.setCell ⟨M, 0, none⟩ pv') l' pv' dv gv nv now dn gn := by
  obtain ⟨a, b, c⟩ := h.rp.setP h.wide hg hp
  exact h.of a b c
theorem RX.setN (h : RX B w0 X M w l pv dv gv nv now dn gn) (hg : w.grownBy w3 nv.ownBlock) (hn : w3.ownsRow B 57 3 nv' now'.length (rowE now')) (hw : nv'.ownBlock = nv.ownBlock ∨ nv'.ownBlock = none ∨ nv'.ownBlock = some w.heap.size) : RX B w0 X M (w3.setCell ⟨M, 3, none⟩ nv') l pv dv gv nv' now' dn gn := by
  obtain ⟨a, b, c⟩ := h.rp.setN h.wide hg hn hw
  exact h.of a b c
theorem RX.noG (h : RX B w0 X M w l pv dv gv nv now dn gn) : RX B w0 X M (w.setCell ⟨M, 2, none⟩ (.slice none 0 0)) l pv dv (.slice none 0 0) nv now dn [] := by
  obtain ⟨a, b, c, _⟩ := h.rp.setG (gn' := []) h.wide (grownBy_refl w gv.ownBlock) (by simp) (by simp) (World.ownsRow_nil _ _ _ _) (Or.inr (Or.inl rfl))
  exact h.of a b c
theorem RX.shut (h : RX B w0 X M w l pv dv gv nv now dn gn) (h0 : 0 < now.length) (hg : w.grownBy w3 dv.ownBlock) (hr : w3.ownsRow B 49 1 dv' (dn.length + 1) (dn.map (·.1) ++ [nv])) (hw : dv'.ownBlock = dv.ownBlock ∨ dv'.ownBlock = some w.heap.size) :
    RX B w0 X M ((w3.setCell ⟨M, 1, none⟩ dv').setCell ⟨M, 3, none⟩ (.slice none 0 0)) l pv dv' gv (.slice none 0 0) [] (dn ++ [(nv, now)]) gn := by
  obtain ⟨a, b, c⟩ := h.rp.shut h.wide h0 hg hr hw
  exact h.of a b c
theorem RX.head3 {o : Option Nat} (h : RX B w0 X M w l pv dv gv nv now dn gn) (hg : w.grownBy w3 o) (ho : o ≠ some M) : w3.heap[M]? = some (.cells #[pv, dv, gv, nv] 51 (0, 0)) := h.rp.head3 hg ho
end
theorem head_cells {w : World} {M : Nat} {a b c d : Value} {t : TypeId} (h : w.heap[M]? = some (.cells #[a, b, c, d] t (0, 0))) : w.cell? ⟨M, 0, none⟩ = some a ∧ w.cell? ⟨M, 1, none⟩ = some b ∧ w.cell? ⟨M, 2, none⟩ = some c ∧ w.cell? ⟨M, 3, none⟩ = some d := by
  simp [World.cell?, h]

/-- An edit in a block of its own. -/
def BoxE (b : Nat) (e : Ed) (u : World) : Prop := u.heap[b]? = some (.cells #[.int .i64 e.at', .string e.old, .string e.new] 57 (0, 0))
theorem BoxE.cells {b : Nat} {e : Ed} {u : World} (h : BoxE b e u) : u.cell? ⟨b, 0, none⟩ = some (.int .i64 e.at') ∧ u.cell? ⟨b, 1, none⟩ = some (.string e.old) ∧ u.cell? ⟨b, 2, none⟩ = some (.string e.new) := by
  unfold BoxE at h
  exact ⟨by simp only [World.cell?, h]; rfl, by simp only [World.cell?, h]; rfl, by simp only [World.cell?, h]; rfl⟩
theorem BoxE.but {b : Nat} {e : Ed} {u u' : World} {o : Option Nat} (h : BoxE b e u) (hg : u.grownBy u' o) (ho : o ≠ some b) : BoxE b e u' := (hg.block b (Array.getElem?_eq_some_iff.1 h).1 (fun e => ho e.symm)).trans h
theorem BoxE.set {b M j : Nat} {e : Ed} {u : World} (h : BoxE b e u) (hne : b ≠ M) (v : Value) : BoxE b e (u.setCell ⟨M, j, none⟩ v) := by
  unfold BoxE
  rw [heap_setCell_other _ _ _ _ (by simpa using hne)]; exact h

/-- What the document's Do comes to. -/
def RDo (B : Nat) (w0 : World) (X : Nat → Prop) (M : Nat) (l : List Nat) (pv dv gv nv : Value) (now : List Ed) (dn gn : List (Value × List Ed)) (e : Ed) (q : Ending) (w' : World) : Prop :=
  (¬ fitsL l e ∧ q = .returned (.int .i64 1) ∧ RX B w0 X M w' l pv dv gv nv now dn gn) ∨ (fitsL l e ∧ 65536 + e.old.size < l.length + e.new.size ∧ q = .returned (.int .i64 4) ∧ RX B w0 X M w' l pv dv gv nv now dn gn) ∨
  (okE l e ∧ e.old = e.new ∧ q = .returned (.int .i64 0) ∧ RX B w0 X M w' l pv dv gv nv now dn gn) ∨ (okE l e ∧ e.old ≠ e.new ∧ q = .returned (.int .i64 0) ∧ ∃ pv' nv', RX B w0 X M w' (appL l e) pv' dv (.slice none 0 0) nv' (now ++ [e]) dn [])

set_option maxHeartbeats 4000000 in
theorem rdo {B : Nat} {w0 w : World} {X : Nat → Prop} {M : Nat} {l : List Nat} {pv dv gv nv : Value} {now : List Ed} {dn gn : List (Value × List Ed)} (h : RX B w0 X M w l pv dv gv nv now dn gn) (hlt : ∀ c ∈ l, c < 256) (hl : l.length ≤ 65536) (hnow : now.length ≤ 100000) (e : Ed) :
    Calls Try.prog 38 #[.pointer (some ⟨M, 0, none⟩), .agg #[.int .i64 e.at', .string e.old, .string e.new]] w fun q w' => RDo B w0 X M l pv dv gv nv now dn gn e q w' := by
  have hg0 := grownBy_alloc w (.cells #[.int .i64 e.at', .string e.old, .string e.new] 57)
  have hbx : BoxE w.heap.size e (w.alloc (.cells #[.int .i64 e.at', .string e.old, .string e.new] 57)) := heap_alloc_new _ _
  have hneM : w.heap.size ≠ M := by have := h.rp.lt; omega
  have Hown : Hid (∀ k, ROwn M pv dv gv nv dn gn k → k ≠ w.heap.size) := fun k hk => by have := (h.rp.own k hk).2; omega
  obtain ⟨va, vc, rfl⟩ := row_slice h.rp.prow
  obtain ⟨na, nc, rfl⟩ := row_slice h.rp.nrow
  have HR := hidden ((h.grown hg0).grown (grown_drew _))
  have HB : Hid (BoxE w.heap.size e (w.alloc (.cells #[.int .i64 e.at', .string e.old, .string e.new] 57)).drew) := hbx.but (grown_drew _) (by simp)
  have Hlt := hidden hlt
  have Hl := hidden hl
  have Hnow := hidden hnow
  clear h hlt hl hnow hg0 hbx
  go_enter Try.func38, Try.ntmps38
  go_wp2_with fail
  have HS : Hid (∀ u, BoxE w.heap.size e u → u.cell? ⟨M, 0, none⟩ = some (.slice va l.length vc) → (fun u : World => u.cell? ⟨M, 0, none⟩ = some (.slice va l.length vc) ∧ u.cell? ⟨w.heap.size, 0, none⟩ = some (.int .i64 e.at') ∧ u.cell? ⟨w.heap.size, 1, none⟩ = some (.string e.old) ∧ u.cell? ⟨w.heap.size, 2, none⟩ = some (.string e.new)) u) := fun u hu hm => ⟨hm, hu.cells⟩
  refine wp_region_held_drew (S := (fun u : World => u.cell? ⟨M, 0, none⟩ = some (.slice va l.length vc) ∧ u.cell? ⟨w.heap.size, 0, none⟩ = some (.int .i64 e.at') ∧ u.cell? ⟨w.heap.size, 1, none⟩ = some (.string e.old) ∧ u.cell? ⟨w.heap.size, 2, none⟩ = some (.string e.new))) (by kernel_rfl) (HS.out _ HB.out HR.out.rp.cells.1) (fun hHeld => ?_)
  generalize (w.alloc (.cells #[.int .i64 e.at', .string e.old, .string e.new] 57)).drew = W at *
  refine take_dst 0 (some 5) rfl rfl (by kernel_rfl) (by kernel_rfl) (by kernel_rfl) (fun _ _ _ h => h) (v := ?_) (Or.inl ⟨by rfl, ?_⟩) (by assumption) ?_
  rotate_left
  · (intro w hSw; (try dsimp only at hSw); go_simp; try with_reducible rfl)
  simp only [Act.put, List.setIfInBounds_toArray, List.set_cons_zero, List.set_cons_succ]
  refine take_dst 1 (some 6) rfl rfl (by kernel_rfl) (by kernel_rfl) (by kernel_rfl) (fun _ _ _ h => h) (v := ?_) (Or.inl ⟨by rfl, ?_⟩) (by assumption) ?_
  rotate_left
  · (intro w hSw; (try dsimp only at hSw); go_simp; try with_reducible rfl)
  simp only [Act.put, List.setIfInBounds_toArray, List.set_cons_zero, List.set_cons_succ]
  refine take_dst 2 (some 7) rfl rfl (by kernel_rfl) (by kernel_rfl) (by kernel_rfl) (fun _ _ _ h => h) (v := ?_) (Or.inl ⟨by rfl, ?_⟩) (by assumption) ?_
  rotate_left
  · (intro w hSw; (try dsimp only at hSw); go_simp; try with_reducible rfl)
  simp only [Act.put, List.setIfInBounds_toArray, List.set_cons_zero, List.set_cons_succ]
  refine take_dst 3 (some 8) rfl rfl (by kernel_rfl) (by kernel_rfl) (by kernel_rfl) (fun _ _ _ h => h) (v := ?_) (Or.inl ⟨by rfl, ?_⟩) (by assumption) ?_
  rotate_left
  · (intro w hSw; (try dsimp only at hSw); go_simp; try with_reducible rfl)
  simp only [Act.put, List.setIfInBounds_toArray, List.set_cons_zero, List.set_cons_succ]
  refine take_dst 4 (some 9) rfl rfl (by kernel_rfl) (by kernel_rfl) (by kernel_rfl) (fun _ _ _ h => h) (v := ?_) (Or.inl ⟨by rfl, ?_⟩) (by assumption) ?_
  rotate_left
  · (intro w hSw; (try dsimp only at hSw); go_simp; try with_reducible rfl)
  simp only [Act.put, List.setIfInBounds_toArray, List.set_cons_zero, List.set_cons_succ]
  refine wpAnyH_ready (rs := [5]) (by kernel_rfl) (by simp) ?_
  refine AllReadyH.cons rfl (fun K hK => ?_) AllReadyH.nil
  go_simp
  refine (rfits e HR.out.rp.prow Hlt.out Hl.out).mono ?_
  rintro q w1 ⟨r, rfl, hr, hb1⟩
  have hg1 := grown_of_below hb1
  have HR1 := hidden (HR.out.grown hg1)
  have HB1 := hidden (HB.out.but hg1 (by simp))
  have Hr := hidden hr
  clear hr hb1 hg1
  refine hK.out _ _ (HS.out _ HB1.out HR1.out.rp.cells.1) (fun hHeld2 => ?_)
  clear hK K
  refine take_dst 6 (some 11) rfl rfl (by kernel_rfl) (by kernel_rfl) (by kernel_rfl) (fun _ _ _ h => h) (v := ?_) (Or.inl ⟨by rfl, ?_⟩) (by assumption) ?_
  rotate_left
  · (intro w hSw; (try dsimp only at hSw); go_simp; try with_reducible rfl)
  simp only [Act.put, List.setIfInBounds_toArray, List.set_cons_zero, List.set_cons_succ]
  refine wpAnyH_done (by kernel_rfl) ?_ _
  clear hHeld hHeld2 HS HR HB
  cases r with
  | false =>
    go_wp2
    go_ret
    exact Or.inl ⟨fun hf => absurd (Hr.out.2 hf) (by decide), rfl, HR1.out⟩
  | true =>
    have hf : fitsL l e := Hr.out.1 rfl
    have Hf := hidden hf
    have hle : e.old.size ≤ l.length := by unfold fitsL at hf; omega
    clear hf Hr
    have c0 := HR1.out.rp.cells.1
    obtain ⟨b0, b1, b2⟩ := HB1.out.cells
    have hnw := e.hn
    have how := e.ho
    obtain ⟨n, hn⟩ : ∃ n, l.length = n := ⟨_, rfl⟩
    obtain ⟨os, hos⟩ : ∃ os, e.old.size = os := ⟨_, rfl⟩
    obtain ⟨m, hm⟩ : ∃ m, e.new.size = m := ⟨_, rfl⟩
    have hlim := Hl.out
    rw [hn] at hlim hle c0
    rw [hos] at hle how
    rw [hm] at hnw
    have w1' : IntKind.i64.wrap ((n : Int) - (os : Int)) = (n : Int) - (os : Int) := IntWalk.i64_in _ (by omega)
    have w2' : IntKind.i64.wrap ((n : Int) - (os : Int) + (m : Int)) = (n : Int) - (os : Int) + (m : Int) := IntWalk.i64_in _ (by omega)
    have Hn := hidden hn
    have Hos := hidden hos
    have Hm := hidden hm
    clear hn
    by_cases hlong : (65536 : Int) < (n : Int) - (os : Int) + (m : Int)
    · go_wp2_with fail
      go_quiet (fail)
      go_wp2
      go_ret
      exact Or.inr (Or.inl ⟨Hf.out, by rw [Hn.out, Hos.out, Hm.out]; omega, rfl, HR1.out.grown ⟨rfl, rfl, rfl, Nat.le_refl _, fun _ _ _ => rfl⟩⟩)
    · go_wp2_with fail
      go_quiet (fail)
      have HR2 := hidden (HR1.out.grown (w' := w1.drewN nq) ⟨rfl, rfl, rfl, Nat.le_refl _, fun _ _ _ => rfl⟩)
      have HB2 : Hid (BoxE w.heap.size e (w1.drewN nq)) := HB1.out
      have Hok : Hid (okE l e) := ⟨Hf.out, by rw [Hn.out, Hos.out, Hm.out]; omega⟩
      clear HR1 HB1 c0 b0 b1 b2 w1' w2' Hn Hos Hm hlim hle how hnw hos hm
      generalize w1.drewN nq = W2 at *
      obtain ⟨b0, b1, b2⟩ := HB2.out.cells
      by_cases hsame : e.old = e.new
      · have hs : (e.old.toList == e.new.toList) = true := (str_beq _ _).2 hsame
        have hs2 : (e.old.toList != e.new.toList) = false := by unfold bne; rw [hs]; rfl
        have Hsame := hidden hsame
        clear hsame
        go_wp2
        go_ret
        exact Or.inr (Or.inr (Or.inl ⟨Hok.out, Hsame.out, rfl, HR2.out⟩))
      · have hs : (e.old.toList == e.new.toList) = false := by
          rw [Bool.eq_false_iff]
          exact fun q => hsame ((str_beq _ _).1 q)
        have hs2 : (e.old.toList != e.new.toList) = true := by unfold bne; rw [hs]; rfl
        have Hsame := hidden hsame
        clear hsame
        go_wp2_with fail
        have HS : Hid (∀ u, BoxE w.heap.size e u → (fun u : World => u.cell? ⟨w.heap.size, 0, none⟩ = some (.int .i64 e.at') ∧ u.cell? ⟨w.heap.size, 1, none⟩ = some (.string e.old) ∧ u.cell? ⟨w.heap.size, 2, none⟩ = some (.string e.new)) u) := fun u hu => hu.cells
        have HR3 := hidden (HR2.out.grown (grown_drew W2))
        have HB3 : Hid (BoxE w.heap.size e W2.drew) := HB2.out
        clear b0 b1 b2 hs hs2 HR2 HB2
        refine wp_region_held_drew (S := (fun u : World => u.cell? ⟨w.heap.size, 0, none⟩ = some (.int .i64 e.at') ∧ u.cell? ⟨w.heap.size, 1, none⟩ = some (.string e.old) ∧ u.cell? ⟨w.heap.size, 2, none⟩ = some (.string e.new))) (by kernel_rfl) (HS.out _ HB3.out) (fun hHeld => ?_)
        generalize W2.drew = W3 at *
        refine take_dst 0 (some 31) rfl rfl (by kernel_rfl) (by kernel_rfl) (by kernel_rfl) (fun _ _ _ h => h) (v := ?_) (Or.inl ⟨by rfl, ?_⟩) (by assumption) ?_
        rotate_left
        · (intro w hSw; (try dsimp only at hSw); go_simp; try with_reducible rfl)
        simp only [Act.put, List.setIfInBounds_toArray, List.set_cons_zero, List.set_cons_succ]
        refine take_dst 1 (some 32) rfl rfl (by kernel_rfl) (by kernel_rfl) (by kernel_rfl) (fun _ _ _ h => h) (v := ?_) (Or.inl ⟨by rfl, ?_⟩) (by assumption) ?_
        rotate_left
        · (intro w hSw; (try dsimp only at hSw); go_simp; try with_reducible rfl)
        simp only [Act.put, List.setIfInBounds_toArray, List.set_cons_zero, List.set_cons_succ]
        refine take_dst 2 (some 33) rfl rfl (by kernel_rfl) (by kernel_rfl) (by kernel_rfl) (fun _ _ _ h => h) (v := ?_) (Or.inl ⟨by rfl, ?_⟩) (by assumption) ?_
        rotate_left
        · (intro w hSw; (try dsimp only at hSw); go_simp; try with_reducible rfl)
        simp only [Act.put, List.setIfInBounds_toArray, List.set_cons_zero, List.set_cons_succ]
        refine take_dst 3 (some 34) rfl rfl (by kernel_rfl) (by kernel_rfl) (by kernel_rfl) (fun _ _ _ h => h) (v := ?_) (Or.inl ⟨by rfl, ?_⟩) (by assumption) ?_
        rotate_left
        · (intro w hSw; (try dsimp only at hSw); go_simp; try with_reducible rfl)
        simp only [Act.put, List.setIfInBounds_toArray, List.set_cons_zero, List.set_cons_succ]
        refine take_dst 5 (some 36) rfl rfl (by kernel_rfl) (by kernel_rfl) (by kernel_rfl) (fun _ _ _ h => h) (v := ?_) (Or.inl ⟨by rfl, ?_⟩) (by assumption) ?_
        rotate_left
        · (intro w hSw; (try dsimp only at hSw); go_simp; try with_reducible rfl)
        simp only [Act.put, List.setIfInBounds_toArray, List.set_cons_zero, List.set_cons_succ]
        refine wpAnyH_ready (rs := [4]) (by kernel_rfl) (by simp) ?_
        refine AllReadyH.cons rfl (fun K hK => ?_) AllReadyH.nil
        have c0 := HR3.out.rp.cells.1
        go_simp
        refine hK.out _ _ (HS.out _ HB3.out) (fun hHeld1 => ?_)
        clear hK K hHeld
        refine wpAnyH_ready (rs := [6]) (by kernel_rfl) (by simp) ?_
        refine AllReadyH.cons rfl (fun K hK => ?_) AllReadyH.nil
        go_simp
        refine (rput e HR3.out.rp.prow Hl.out ⟨Hok.out.1.1, Hok.out.1.2.1⟩).mono ?_
        rintro q w4 ⟨x4, rfl, hL4⟩
        rw [← Hok.out.app] at hL4
        have hg4 := grown_of_below hL4.2
        have HR5 := hidden (HR3.out.setP hg4 hL4.1)
        have HB4 := hidden (HB3.out.but hg4 (by simp))
        have hd4 := head_cells (HR3.out.head3 hg4 (by simp))
        have f0 : w4.frozen? ⟨M, 0, none⟩ = false := frozen_of_row w4 M 0 _ 51 (HR3.out.head3 hg4 (by simp))
        have d0 := hd4.1
        obtain ⟨xa, xc, rfl⟩ := row_slice hL4.1
        have HB5 := hidden (HB4.out.set (j := 0) hneM (.slice xa (appL l e).length xc))
        clear hL4 hg4 hd4
        refine hK.out _ _ (HS.out _ HB4.out) (fun hHeld2 => ?_)
        clear hK K hHeld1 c0
        refine take_dst 7 (some 38) rfl rfl (by kernel_rfl) (by kernel_rfl) (by kernel_rfl) (fun _ _ _ h => h) (v := ?_) (Or.inl ⟨by rfl, ?_⟩) (by assumption) ?_
        rotate_left
        · (intro w hSw; (try dsimp only at hSw); go_simp; try with_reducible rfl)
        simp only [Act.put, List.setIfInBounds_toArray, List.set_cons_zero, List.set_cons_succ]
        refine take_dst 8 (some 39) rfl rfl (by kernel_rfl) (by kernel_rfl) (by kernel_rfl) (fun _ _ _ h => h) (v := ?_) (Or.inl ⟨by rfl, ?_⟩) (by assumption) ?_
        rotate_left
        · (intro w hSw; (try dsimp only at hSw); go_simp; try with_reducible rfl)
        simp only [Act.put, List.setIfInBounds_toArray, List.set_cons_zero, List.set_cons_succ]
        refine wpAnyH_ready (rs := [9]) (by kernel_rfl) (by simp) ?_
        refine AllReadyH.cons rfl (fun K hK => ?_) AllReadyH.nil
        go_simp
        refine hK.out _ _ (HS.out _ HB5.out) (fun hHeld3 => ?_)
        clear hK K
        refine wpAnyH_done (by kernel_rfl) ?_ _
        clear hHeld2 hHeld3 HB4 HR3 HB3 d0 f0
        generalize (w4.setCell ⟨M, 0, none⟩ (.slice xa (appL l e).length xc)) = W5 at *
        go_wp2_with fail
        have HR6 := hidden (HR5.out.grown (grown_drew W5))
        have HB6 : Hid (BoxE w.heap.size e W5.drew) := HB5.out
        clear HR5 HB5
        obtain ⟨i0, hi, hz0, hz1, hz2⟩ := info_parts info57e
        refine wp_region_held_drew (S := (fun u : World => u.cell? ⟨w.heap.size, 0, none⟩ = some (.int .i64 e.at') ∧ u.cell? ⟨w.heap.size, 1, none⟩ = some (.string e.old) ∧ u.cell? ⟨w.heap.size, 2, none⟩ = some (.string e.new))) (by kernel_rfl) (HS.out _ HB6.out) (fun hHeld => ?_)
        generalize W5.drew = W6 at *
        refine take_dst 0 (some 40) rfl rfl (by kernel_rfl) (by kernel_rfl) (by kernel_rfl) (fun _ _ _ h => h) (v := ?_) (Or.inl ⟨by rfl, ?_⟩) (by assumption) ?_
        rotate_left
        · (intro w hSw; (try dsimp only at hSw); go_simp; try with_reducible rfl)
        simp only [Act.put, List.setIfInBounds_toArray, List.set_cons_zero, List.set_cons_succ]
        refine take_dst 1 (some 41) rfl rfl (by kernel_rfl) (by kernel_rfl) (by kernel_rfl) (fun _ _ _ h => h) (v := ?_) (Or.inl ⟨by rfl, ?_⟩) (by assumption) ?_
        rotate_left
        · (intro w hSw; (try dsimp only at hSw); go_simp; try with_reducible rfl)
        simp only [Act.put, List.setIfInBounds_toArray, List.set_cons_zero, List.set_cons_succ]
        refine take_dst 2 (some 42) rfl rfl (by kernel_rfl) (by kernel_rfl) (by kernel_rfl) (fun _ _ _ h => h) (v := ?_) (Or.inl ⟨by rfl, ?_⟩) (by assumption) ?_
        rotate_left
        · (intro w hSw; (try dsimp only at hSw); go_simp; try with_reducible rfl)
        simp only [Act.put, List.setIfInBounds_toArray, List.set_cons_zero, List.set_cons_succ]
        refine take_dst 3 (some 43) rfl rfl (by kernel_rfl) (by kernel_rfl) (by kernel_rfl) (fun _ _ _ h => h) (v := ?_) (Or.inl ⟨by rfl, ?_⟩) (by assumption) ?_
        rotate_left
        · (intro w hSw; (try dsimp only at hSw); go_simp; try with_reducible rfl)
        simp only [Act.put, List.setIfInBounds_toArray, List.set_cons_zero, List.set_cons_succ]
        refine take_dst 5 (some 45) rfl rfl (by kernel_rfl) (by kernel_rfl) (by kernel_rfl) (fun _ _ _ h => h) (v := ?_) (Or.inl ⟨by rfl, ?_⟩) (by assumption) ?_
        rotate_left
        · (intro w hSw; (try dsimp only at hSw); go_simp; try with_reducible rfl)
        simp only [Act.put, List.setIfInBounds_toArray, List.set_cons_zero, List.set_cons_succ]
        have c3 := HR6.out.rp.cells.2.2.2
        have HR7 := hidden (HR6.out.grown (grownBy_alloc W6 (.cells #[.int .i64 e.at', .string e.old, .string e.new] 57)))
        have HB7 := hidden (HB6.out.but (grownBy_alloc W6 (.cells #[.int .i64 e.at', .string e.old, .string e.new] 57)) (by simp))
        have c37 := HR7.out.rp.cells.2.2.2
        refine wpAnyH_ready (rs := [4, 6]) (by kernel_rfl) (by simp) ?_
        refine AllReadyH.cons rfl (fun K hK => ?_) (AllReadyH.cons rfl (fun K hK => ?_) AllReadyH.nil)
        · go_simp
          refine hK.out _ _ (HS.out _ HB6.out) (fun hHeld1 => ?_)
          clear hK K hHeld
          refine wpAnyH_ready (rs := [6]) (by kernel_rfl) (by simp) ?_
          refine AllReadyH.cons rfl (fun K hK => ?_) AllReadyH.nil
          go_simp
          refine hK.out _ _ (HS.out _ HB7.out) (fun hHeld2 => ?_)
          clear hK K hHeld1 c3 c37
          refine wpAnyH_ready (rs := [7]) (by kernel_rfl) (by simp) ?_
          refine AllReadyH.cons rfl (fun K hK => ?_) AllReadyH.nil
          refine step_append_wh rfl (.tmp 44) (.tmp 46) 49 rfl B 57 i0 (.agg #[.int .i64 0, .string ⟨#[]⟩, .string ⟨#[]⟩]) 3 40 Try.underlying49 hi hz0 hz1 hz2 rfl (by decide) (.slice na now.length nc) now.length (rowE now) (by simp [Act.eval]) HR7.out.rp.nrow ⟨W6.heap.size, 0, none⟩ 1 1 e.row (by simp [Act.eval]) rfl (cells3e _ _ _ _) (by intro u hu; simp [Ed.row] at hu; rcases hu with rfl | rfl | rfl <;> rfl) (by have := Hnow.out; unfold maxLen; omega) (by have := Hnow.out; omega) HR7.out.rp.bs (by decide) ?_
          intro v' w8 hr8 hg8 hw8
          obtain ⟨za, zc, rfl⟩ := row_slice hr8.out
          have HR9 : Hid (RX B w0 X M (w8.setCell ⟨M, 3, none⟩ (.slice za (now.length + 1) zc)) (appL l e) (.slice xa (appL l e).length xc) dv gv (.slice za (now.length + 1) zc) (now ++ [e]) dn gn) := HR7.out.setN hg8.out (by rw [List.length_append, List.length_singleton, rowE_app, show rowE [e] = e.row by simp [rowE]]; exact hr8.out) (by rcases hw8.out with q | q; exact Or.inl q; exact Or.inr (Or.inr q))
          have hM8 := HR7.out.head3 hg8.out (row_head HR7.out.rp.nrow HR7.out.rp.head (by decide))
          have d3 := (head_cells hM8).2.2.2
          have f3 : w8.frozen? ⟨M, 3, none⟩ = false := frozen_of_row w8 M 3 _ 51 hM8
          have d9 := HR9.out.rp.cells.2.2.1
          have f9 : (w8.setCell ⟨M, 3, none⟩ (.slice za (now.length + 1) zc)).frozen? ⟨M, 2, none⟩ = false := HR9.out.rp.free 2
          have HB8 : Hid (BoxE w.heap.size e w8) := HB7.out.but hg8.out (fun q => Hown.out _ (Or.inr (Or.inr (Or.inr (Or.inr (Or.inl q))))) rfl)
          have HB9 := hidden (HB8.out.set (j := 3) hneM (.slice za (now.length + 1) zc))
          have HR10 := hidden HR9.out.noG
          clear hr8 hg8 hw8 hM8
          refine hK.out _ _ (HS.out _ HB8.out) (fun hHeld4 => ?_)
          clear hK K
          refine take_dst 8 (some 48) rfl rfl (by kernel_rfl) (by kernel_rfl) (by kernel_rfl) (fun _ _ _ h => h) (v := ?_) (Or.inl ⟨by rfl, ?_⟩) (by assumption) ?_
          rotate_left
          · (intro w hSw; (try dsimp only at hSw); go_simp; try with_reducible rfl)
          simp only [Act.put, List.setIfInBounds_toArray]
          refine take_dst 9 (some 49) rfl rfl (by kernel_rfl) (by kernel_rfl) (by kernel_rfl) (fun _ _ _ h => h) (v := ?_) (Or.inl ⟨by rfl, ?_⟩) (by assumption) ?_
          rotate_left
          · (intro w hSw; (try dsimp only at hSw); go_simp; try with_reducible rfl)
          simp only [Act.put]
          refine wpAnyH_ready (rs := [10]) (by kernel_rfl) (by simp) ?_
          refine AllReadyH.cons rfl (fun K hK => ?_) AllReadyH.nil
          go_simp
          refine hK.out _ _ (HS.out _ HB9.out) (fun hHeld5 => ?_)
          clear hK K
          refine wpAnyH_done (by kernel_rfl) ?_ _
          clear hHeld4 hHeld5 HS HB8 HB9 HB7 HR7 d3 f3 HR9
          generalize (w8.setCell ⟨M, 3, none⟩ (.slice za (now.length + 1) zc)) = W9 at *
          go_wp2
          go_ret
          exact Or.inr (Or.inr (Or.inr ⟨Hok.out, Hsame.out, rfl, _, _, HR10.out⟩))
        · go_simp
          refine hK.out _ _ (HS.out _ HB7.out) (fun hHeld1 => ?_)
          clear hK K hHeld
          refine wpAnyH_ready (rs := [4]) (by kernel_rfl) (by simp) ?_
          refine AllReadyH.cons rfl (fun K hK => ?_) AllReadyH.nil
          go_simp
          refine hK.out _ _ (HS.out _ HB7.out) (fun hHeld2 => ?_)
          clear hK K hHeld1 c3 c37
          refine wpAnyH_ready (rs := [7]) (by kernel_rfl) (by simp) ?_
          refine AllReadyH.cons rfl (fun K hK => ?_) AllReadyH.nil
          refine step_append_wh rfl (.tmp 44) (.tmp 46) 49 rfl B 57 i0 (.agg #[.int .i64 0, .string ⟨#[]⟩, .string ⟨#[]⟩]) 3 40 Try.underlying49 hi hz0 hz1 hz2 rfl (by decide) (.slice na now.length nc) now.length (rowE now) (by simp [Act.eval]) HR7.out.rp.nrow ⟨W6.heap.size, 0, none⟩ 1 1 e.row (by simp [Act.eval]) rfl (cells3e _ _ _ _) (by intro u hu; simp [Ed.row] at hu; rcases hu with rfl | rfl | rfl <;> rfl) (by have := Hnow.out; unfold maxLen; omega) (by have := Hnow.out; omega) HR7.out.rp.bs (by decide) ?_
          intro v' w8 hr8 hg8 hw8
          obtain ⟨za, zc, rfl⟩ := row_slice hr8.out
          have HR9 : Hid (RX B w0 X M (w8.setCell ⟨M, 3, none⟩ (.slice za (now.length + 1) zc)) (appL l e) (.slice xa (appL l e).length xc) dv gv (.slice za (now.length + 1) zc) (now ++ [e]) dn gn) := HR7.out.setN hg8.out (by rw [List.length_append, List.length_singleton, rowE_app, show rowE [e] = e.row by simp [rowE]]; exact hr8.out) (by rcases hw8.out with q | q; exact Or.inl q; exact Or.inr (Or.inr q))
          have hM8 := HR7.out.head3 hg8.out (row_head HR7.out.rp.nrow HR7.out.rp.head (by decide))
          have d3 := (head_cells hM8).2.2.2
          have f3 : w8.frozen? ⟨M, 3, none⟩ = false := frozen_of_row w8 M 3 _ 51 hM8
          have d9 := HR9.out.rp.cells.2.2.1
          have f9 : (w8.setCell ⟨M, 3, none⟩ (.slice za (now.length + 1) zc)).frozen? ⟨M, 2, none⟩ = false := HR9.out.rp.free 2
          have HB8 : Hid (BoxE w.heap.size e w8) := HB7.out.but hg8.out (fun q => Hown.out _ (Or.inr (Or.inr (Or.inr (Or.inr (Or.inl q))))) rfl)
          have HB9 := hidden (HB8.out.set (j := 3) hneM (.slice za (now.length + 1) zc))
          have HR10 := hidden HR9.out.noG
          clear hr8 hg8 hw8 hM8
          refine hK.out _ _ (HS.out _ HB8.out) (fun hHeld4 => ?_)
          clear hK K
          refine take_dst 8 (some 48) rfl rfl (by kernel_rfl) (by kernel_rfl) (by kernel_rfl) (fun _ _ _ h => h) (v := ?_) (Or.inl ⟨by rfl, ?_⟩) (by assumption) ?_
          rotate_left
          · (intro w hSw; (try dsimp only at hSw); go_simp; try with_reducible rfl)
          simp only [Act.put, List.setIfInBounds_toArray]
          refine take_dst 9 (some 49) rfl rfl (by kernel_rfl) (by kernel_rfl) (by kernel_rfl) (fun _ _ _ h => h) (v := ?_) (Or.inl ⟨by rfl, ?_⟩) (by assumption) ?_
          rotate_left
          · (intro w hSw; (try dsimp only at hSw); go_simp; try with_reducible rfl)
          simp only [Act.put]
          refine wpAnyH_ready (rs := [10]) (by kernel_rfl) (by simp) ?_
          refine AllReadyH.cons rfl (fun K hK => ?_) AllReadyH.nil
          go_simp
          refine hK.out _ _ (HS.out _ HB9.out) (fun hHeld5 => ?_)
          clear hK K
          refine wpAnyH_done (by kernel_rfl) ?_ _
          clear hHeld4 hHeld5 HS HB8 HB9 HB7 HR7 d3 f3 HR9
          generalize (w8.setCell ⟨M, 3, none⟩ (.slice za (now.length + 1) zc)) = W9 at *
          go_wp2
          go_ret
          exact Or.inr (Or.inr (Or.inr ⟨Hok.out, Hsame.out, rfl, _, _, HR10.out⟩))
end Go.Proofs.PlatenPiece
