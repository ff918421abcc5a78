/- What digit, ends, number of the document's machine come to. -/
import Derived.Test.YtfakfgmengcndaaKE
namespace Go.Proofs.PlatenJson
open Go Go.RowKit
set_option linter.unusedVariables false
set_option maxRecDepth 100000

set_option maxHeartbeats 1000000 in
theorem digit_any (c : Nat) (w : World) (hc : c < 256) : Calls Try.prog 90 #[.int .u8 (c : Nat)] w fun e w' => e = .returned (.bool (isD c)) ∧ w' = w := by
  have Hs : Hid (isD c = (decide (48 ≤ c) && decide (c ≤ 57))) := rfl
  by_cases h1 : 48 ≤ c
  · have z1 : (48 : Int) ≤ (c : Int) := by omega
    go_enter Try.func90, Try.ntmps90
    go_wp2
    go_ret
    exact ⟨by rw [Hs.out]; simp [h1]; omega, rfl⟩
  · have z1 : ¬ ((48 : Int) ≤ (c : Int)) := by omega
    go_enter Try.func90, Try.ntmps90
    go_wp2
    go_ret
    exact ⟨by rw [Hs.out]; simp [h1], rfl⟩
set_option maxHeartbeats 1000000 in
theorem ends_any (s : Nat) (w : World) : Calls Try.prog 43 #[.int .u8 (s : Nat)] w fun e w' => e = .returned (.bool (ends s)) ∧ w' = w := by
  have Hs : Hid (ends s = (decide (s = 10) || decide (s = 11) || decide (s = 13) || decide (s = 16))) := rfl
  by_cases h0 : s = 10
  · have z0 : ((s : Int) == 10) = true := by simp; omega
    go_enter Try.func43, Try.ntmps43
    go_wp2
    go_ret
    exact ⟨by rw [Hs.out]; simp [h0], rfl⟩
  have z0 : ((s : Int) == 10) = false := by simp; omega
  by_cases h1 : s = 11
  · have z1 : ((s : Int) == 11) = true := by simp; omega
    go_enter Try.func43, Try.ntmps43
    go_wp2
    go_ret
    exact ⟨by rw [Hs.out]; simp [h1], rfl⟩
  have z1 : ((s : Int) == 11) = false := by simp; omega
  by_cases h2 : s = 13
  · have z2 : ((s : Int) == 13) = true := by simp; omega
    go_enter Try.func43, Try.ntmps43
    go_wp2
    go_ret
    exact ⟨by rw [Hs.out]; simp [h2], rfl⟩
  have z2 : ((s : Int) == 13) = false := by simp; omega
  by_cases h3 : s = 16
  · have z3 : ((s : Int) == 16) = true := by simp; omega
    go_enter Try.func43, Try.ntmps43
    go_wp2
    go_ret
    exact ⟨by rw [Hs.out]; simp [h3], rfl⟩
  have z3 : ((s : Int) == 16) = false := by simp; omega
  go_enter Try.func43, Try.ntmps43
  go_wp2
  go_ret
  exact ⟨by rw [Hs.out]; simp [h0, h1, h2, h3], rfl⟩

/-- A pair of a state and a Bool. -/
abbrev NbV (p : Nat × Bool) : Value := .tuple #[.int .u8 (p.1 : Nat), .bool p.2]
set_option maxHeartbeats 1000000 in
theorem numb9 (c : Nat) (w : World) (hc : c < 256) : Calls Try.prog 67 #[.int .u8 9, .int .u8 (c : Nat)] w fun e w' => e = .returned (NbV (numb 9 c)) ∧ w' = w := by
  have cd := digit_any c w hc
  by_cases h48 : c = 48
  · have e1 : Hid (numb 9 c = (10, true)) := by subst h48; rfl
    have z : ((c : Int) == 48) = true := by simp; omega
    go_enter Try.func67, Try.ntmps67
    go_wp2
    go_ret2
    exact ⟨by rw [e1.out]; rfl, rfl⟩
  have z48 : ((c : Int) == 48) = false := by simp; omega
  have e1 : Hid (numb 9 c = (11, isD c)) := by unfold Hid; simp [numb, h48]
  go_enter Try.func67, Try.ntmps67
  go_wp2_with fail
  refine cd.mono ?_
  rintro e w1 ⟨rfl, rfl⟩
  go_wp2
  go_ret2
  exact ⟨by rw [e1.out]; rfl, rfl⟩
set_option maxHeartbeats 1000000 in
theorem numb10 (c : Nat) (w : World) (hc : c < 256) : Calls Try.prog 67 #[.int .u8 10, .int .u8 (c : Nat)] w fun e w' => e = .returned (NbV (numb 10 c)) ∧ w' = w := by
  have cd := digit_any c w hc
  by_cases h46 : c = 46
  · have e1 : Hid (numb 10 c = (12, true)) := by subst h46; rfl
    have z : ((c : Int) == 46) = true := by simp; omega
    go_enter Try.func67, Try.ntmps67
    go_wp2
    go_ret2
    exact ⟨by rw [e1.out]; rfl, rfl⟩
  have z46 : ((c : Int) == 46) = false := by simp; omega
  by_cases h101 : c = 101
  · have e1 : Hid (numb 10 c = (14, true)) := by subst h101; rfl
    have z : ((c : Int) == 101) = true := by simp; omega
    go_enter Try.func67, Try.ntmps67
    go_wp2
    go_ret2
    exact ⟨by rw [e1.out]; rfl, rfl⟩
  have z101 : ((c : Int) == 101) = false := by simp; omega
  by_cases h69 : c = 69
  · have e1 : Hid (numb 10 c = (14, true)) := by subst h69; rfl
    have z : ((c : Int) == 69) = true := by simp; omega
    go_enter Try.func67, Try.ntmps67
    go_wp2
    go_ret2
    exact ⟨by rw [e1.out]; rfl, rfl⟩
  have z69 : ((c : Int) == 69) = false := by simp; omega
  have e1 : Hid (numb 10 c = (11, false)) := by unfold Hid; simp [numb, h46, h101, h69]
  go_enter Try.func67, Try.ntmps67
  go_wp2
  go_ret2
  exact ⟨by rw [e1.out]; rfl, rfl⟩
set_option maxHeartbeats 1000000 in
theorem numb11 (c : Nat) (w : World) (hc : c < 256) : Calls Try.prog 67 #[.int .u8 11, .int .u8 (c : Nat)] w fun e w' => e = .returned (NbV (numb 11 c)) ∧ w' = w := by
  have cd := digit_any c w hc
  by_cases h46 : c = 46
  · have e1 : Hid (numb 11 c = (12, true)) := by subst h46; rfl
    have z : ((c : Int) == 46) = true := by simp; omega
    go_enter Try.func67, Try.ntmps67
    go_wp2
    go_ret2
    exact ⟨by rw [e1.out]; rfl, rfl⟩
  have z46 : ((c : Int) == 46) = false := by simp; omega
  by_cases h101 : c = 101
  · have e1 : Hid (numb 11 c = (14, true)) := by subst h101; rfl
    have z : ((c : Int) == 101) = true := by simp; omega
    go_enter Try.func67, Try.ntmps67
    go_wp2
    go_ret2
    exact ⟨by rw [e1.out]; rfl, rfl⟩
  have z101 : ((c : Int) == 101) = false := by simp; omega
  by_cases h69 : c = 69
  · have e1 : Hid (numb 11 c = (14, true)) := by subst h69; rfl
    have z : ((c : Int) == 69) = true := by simp; omega
    go_enter Try.func67, Try.ntmps67
    go_wp2
    go_ret2
    exact ⟨by rw [e1.out]; rfl, rfl⟩
  have z69 : ((c : Int) == 69) = false := by simp; omega
  have e1 : Hid (numb 11 c = (11, isD c)) := by unfold Hid; simp [numb, h46, h101, h69]
  go_enter Try.func67, Try.ntmps67
  go_wp2_with fail
  refine cd.mono ?_
  rintro e w1 ⟨rfl, rfl⟩
  go_wp2
  go_ret2
  exact ⟨by rw [e1.out]; rfl, rfl⟩
set_option maxHeartbeats 1000000 in
theorem numb12 (c : Nat) (w : World) (hc : c < 256) : Calls Try.prog 67 #[.int .u8 12, .int .u8 (c : Nat)] w fun e w' => e = .returned (NbV (numb 12 c)) ∧ w' = w := by
  have cd := digit_any c w hc
  have e1 : Hid (numb 12 c = (13, isD c)) := by unfold Hid; simp [numb]
  go_enter Try.func67, Try.ntmps67
  go_wp2_with fail
  refine cd.mono ?_
  rintro e w1 ⟨rfl, rfl⟩
  go_wp2
  go_ret2
  exact ⟨by rw [e1.out]; rfl, rfl⟩
set_option maxHeartbeats 1000000 in
theorem numb13 (c : Nat) (w : World) (hc : c < 256) : Calls Try.prog 67 #[.int .u8 13, .int .u8 (c : Nat)] w fun e w' => e = .returned (NbV (numb 13 c)) ∧ w' = w := by
  have cd := digit_any c w hc
  by_cases h101 : c = 101
  · have e1 : Hid (numb 13 c = (14, true)) := by subst h101; rfl
    have z : ((c : Int) == 101) = true := by simp; omega
    go_enter Try.func67, Try.ntmps67
    go_wp2
    go_ret2
    exact ⟨by rw [e1.out]; rfl, rfl⟩
  have z101 : ((c : Int) == 101) = false := by simp; omega
  by_cases h69 : c = 69
  · have e1 : Hid (numb 13 c = (14, true)) := by subst h69; rfl
    have z : ((c : Int) == 69) = true := by simp; omega
    go_enter Try.func67, Try.ntmps67
    go_wp2
    go_ret2
    exact ⟨by rw [e1.out]; rfl, rfl⟩
  have z69 : ((c : Int) == 69) = false := by simp; omega
  have e1 : Hid (numb 13 c = (13, isD c)) := by unfold Hid; simp [numb, h101, h69]
  go_enter Try.func67, Try.ntmps67
  go_wp2_with fail
  refine cd.mono ?_
  rintro e w1 ⟨rfl, rfl⟩
  go_wp2
  go_ret2
  exact ⟨by rw [e1.out]; rfl, rfl⟩
set_option maxHeartbeats 1000000 in
theorem numb14 (c : Nat) (w : World) (hc : c < 256) : Calls Try.prog 67 #[.int .u8 14, .int .u8 (c : Nat)] w fun e w' => e = .returned (NbV (numb 14 c)) ∧ w' = w := by
  have cd := digit_any c w hc
  by_cases h43 : c = 43
  · have e1 : Hid (numb 14 c = (15, true)) := by subst h43; rfl
    have z : ((c : Int) == 43) = true := by simp; omega
    go_enter Try.func67, Try.ntmps67
    go_wp2
    go_ret2
    exact ⟨by rw [e1.out]; rfl, rfl⟩
  have z43 : ((c : Int) == 43) = false := by simp; omega
  by_cases h45 : c = 45
  · have e1 : Hid (numb 14 c = (15, true)) := by subst h45; rfl
    have z : ((c : Int) == 45) = true := by simp; omega
    go_enter Try.func67, Try.ntmps67
    go_wp2
    go_ret2
    exact ⟨by rw [e1.out]; rfl, rfl⟩
  have z45 : ((c : Int) == 45) = false := by simp; omega
  have e1 : Hid (numb 14 c = (16, isD c)) := by unfold Hid; simp [numb, h43, h45]
  go_enter Try.func67, Try.ntmps67
  go_wp2_with fail
  refine cd.mono ?_
  rintro e w1 ⟨rfl, rfl⟩
  go_wp2
  go_ret2
  exact ⟨by rw [e1.out]; rfl, rfl⟩
set_option maxHeartbeats 1000000 in
theorem numb15 (c : Nat) (w : World) (hc : c < 256) : Calls Try.prog 67 #[.int .u8 15, .int .u8 (c : Nat)] w fun e w' => e = .returned (NbV (numb 15 c)) ∧ w' = w := by
  have cd := digit_any c w hc
  have e1 : Hid (numb 15 c = (16, isD c)) := by unfold Hid; simp [numb]
  go_enter Try.func67, Try.ntmps67
  go_wp2_with fail
  refine cd.mono ?_
  rintro e w1 ⟨rfl, rfl⟩
  go_wp2
  go_ret2
  exact ⟨by rw [e1.out]; rfl, rfl⟩
set_option maxHeartbeats 1000000 in
theorem numb16 (c : Nat) (w : World) (hc : c < 256) : Calls Try.prog 67 #[.int .u8 16, .int .u8 (c : Nat)] w fun e w' => e = .returned (NbV (numb 16 c)) ∧ w' = w := by
  have cd := digit_any c w hc
  have e1 : Hid (numb 16 c = (16, isD c)) := by unfold Hid; simp [numb]
  go_enter Try.func67, Try.ntmps67
  go_wp2_with fail
  refine cd.mono ?_
  rintro e w1 ⟨rfl, rfl⟩
  go_wp2
  go_ret2
  exact ⟨by rw [e1.out]; rfl, rfl⟩
set_option maxHeartbeats 1000000 in
theorem numb_else (s c : Nat) (w : World) (hs : s ≤ 8 ∨ s = 17) : Calls Try.prog 67 #[.int .u8 (s : Nat), .int .u8 (c : Nat)] w fun e w' => e = .returned (NbV (numb s c)) ∧ w' = w := by
  have e1 : Hid (numb s c = (0, false)) := by
    have : s = 0 ∨ s = 1 ∨ s = 2 ∨ s = 3 ∨ s = 4 ∨ s = 5 ∨ s = 6 ∨ s = 7 ∨ s = 8 ∨ s = 17 := by omega
    rcases this with rfl | rfl | rfl | rfl | rfl | rfl | rfl | rfl | rfl | rfl <;> rfl
  have z9 : ((s : Int) == 9) = false := by simp; omega
  have z10 : ((s : Int) == 10) = false := by simp; omega
  have z11 : ((s : Int) == 11) = false := by simp; omega
  have z12 : ((s : Int) == 12) = false := by simp; omega
  have z13 : ((s : Int) == 13) = false := by simp; omega
  have z14 : ((s : Int) == 14) = false := by simp; omega
  have z15 : ((s : Int) == 15) = false := by simp; omega
  have z16 : ((s : Int) == 16) = false := by simp; omega
  clear hs
  go_enter Try.func67, Try.ntmps67
  go_wp2
  go_ret2
  exact ⟨by rw [e1.out]; rfl, rfl⟩
theorem number_ref (s c : Nat) (w : World) (hs : s ≤ 17) (hc : c < 256) : Calls Try.prog 67 #[.int .u8 (s : Nat), .int .u8 (c : Nat)] w fun e w' => e = .returned (NbV (numb s c)) ∧ w' = w := by
  have : s = 9 ∨ s = 10 ∨ s = 11 ∨ s = 12 ∨ s = 13 ∨ s = 14 ∨ s = 15 ∨ s = 16 ∨ s ≤ 8 ∨ s = 17 := by omega
  rcases this with rfl | rfl | rfl | rfl | rfl | rfl | rfl | rfl | h | h
  · exact numb9 c w hc
  · exact numb10 c w hc
  · exact numb11 c w hc
  · exact numb12 c w hc
  · exact numb13 c w hc
  · exact numb14 c w hc
  · exact numb15 c w hc
  · exact numb16 c w hc
  · exact numb_else s c w (Or.inl h)
  · exact numb_else s c w (Or.inr h)
end Go.Proofs.PlatenJson

/- The document's machine in memory; what its atom and one come to. -/
namespace Go.Proofs.PlatenJson
open Go Go.RowKit
set_option linter.unusedVariables false
set_option maxRecDepth 100000

theorem info5 : (Try.prog.info? 5).map (fun i => (i.zero, i.size, i.bytes)) = some (some (.int .u8 0), 1, 1) := by kernel_rfl
/-- What is open, the outermost first, as cells. -/
def rowB (S : List Nat) : List Value := S.reverse.map fun c => Value.int .u8 (c : Nat)
theorem rowB_cons (c : Nat) (S : List Nat) : rowB (c :: S) = rowB S ++ [.int .u8 (c : Nat)] := by simp [rowB]
theorem rowB_len (S : List Nat) : (rowB S).length = S.length := by simp [rowB]
def strOf (l : List Nat) : ByteArray := ⟨(l.map fun c => UInt8.ofNat c).toArray⟩

/-- The machine at block K, with all its own blocks from B on. -/
structure MS (B K : Nat) (w0 w : World) (sv lv : Value) (st : Nat) (S : List Nat) (fr : Nat) (nm : Bool) (left : ByteArray) (cnt : Nat) (T : List Tk) : Prop where
  low : B ≤ K
  bs : B ≤ w.heap.size
  head : w.heap[K]? = some (.cells #[.int .u8 (st : Nat), sv, .int .i64 (fr : Nat), .bool nm, .string left, .int .i64 (cnt : Nat), lv] 78 (0, 0))
  srow : w.ownsRow B 5 1 sv S.length (rowB S)
  lrow : w.ownsRow B 47 3 lv T.length (rowT T)
  bel : Below B w0 w
def MM (B K : Nat) (w0 w : World) (M : Mc) : Prop := ∃ sv lv, MS B K w0 w sv lv M.st M.stack M.fr M.nm (strOf M.left) M.cnt M.l

section
variable {B K : Nat} {w0 w w' : World} {sv lv : Value} {st : Nat} {S : List Nat} {fr : Nat} {nm : Bool} {left : ByteArray} {cnt : Nat} {T : List Tk}
theorem MS.lt (h : MS B K w0 w sv lv st S fr nm left cnt T) : K < w.heap.size := (Array.getElem?_eq_some_iff.1 h.head).1
theorem MS.c0 (h : MS B K w0 w sv lv st S fr nm left cnt T) : w.cell? ⟨K, 0, none⟩ = some (.int .u8 (st : Nat)) := by simp [World.cell?, h.head]
theorem MS.c1 (h : MS B K w0 w sv lv st S fr nm left cnt T) : w.cell? ⟨K, 1, none⟩ = some sv := by simp [World.cell?, h.head]
theorem MS.c2 (h : MS B K w0 w sv lv st S fr nm left cnt T) : w.cell? ⟨K, 2, none⟩ = some (.int .i64 (fr : Nat)) := by simp [World.cell?, h.head]
theorem MS.c3 (h : MS B K w0 w sv lv st S fr nm left cnt T) : w.cell? ⟨K, 3, none⟩ = some (.bool nm) := by simp [World.cell?, h.head]
theorem MS.c4 (h : MS B K w0 w sv lv st S fr nm left cnt T) : w.cell? ⟨K, 4, none⟩ = some (.string left) := by simp [World.cell?, h.head]
theorem MS.c5 (h : MS B K w0 w sv lv st S fr nm left cnt T) : w.cell? ⟨K, 5, none⟩ = some (.int .i64 (cnt : Nat)) := by simp [World.cell?, h.head]
theorem MS.c6 (h : MS B K w0 w sv lv st S fr nm left cnt T) : w.cell? ⟨K, 6, none⟩ = some lv := by simp [World.cell?, h.head]
theorem MS.free (h : MS B K w0 w sv lv st S fr nm left cnt T) (j : Nat) : w.frozen? ⟨K, j, none⟩ = false := frozen_of_row w K j _ 78 h.head
theorem MS.sown (h : MS B K w0 w sv lv st S fr nm left cnt T) : sv.ownBlock ≠ some K := row_head h.srow h.head (by decide)
theorem MS.lown (h : MS B K w0 w sv lv st S fr nm left cnt T) : lv.ownBlock ≠ some K := row_head h.lrow h.head (by decide)
theorem MS.grown (h : MS B K w0 w sv lv st S fr nm left cnt T) (hg : w.grownBy w' none) : MS B K w0 w' sv lv st S fr nm left cnt T where
  low := h.low
  bs := Nat.le_trans h.bs hg.size
  head := (hg.block K h.lt (by simp)).trans h.head
  srow := row_same h.srow (fun k hk => hg.block k (h.srow.lt k hk).2 (by simp))
  lrow := row_same h.lrow (fun k hk => hg.block k (h.lrow.lt k hk).2 (by simp))
  bel := h.bel.grown hg h.bs (by simp)
/-- One of its own cells has changed, but no row. -/
theorem MS.store (h : MS B K w0 w sv lv st S fr nm left cnt T) {c : Nat} {u : Value} {st' fr' cnt' : Nat} {nm' : Bool} {left' : ByteArray}
    (hc : #[.int .u8 (st : Nat), sv, .int .i64 (fr : Nat), .bool nm, .string left, .int .i64 (cnt : Nat), lv].set! c u = #[.int .u8 (st' : Nat), sv, .int .i64 (fr' : Nat), .bool nm', .string left', .int .i64 (cnt' : Nat), lv]) :
    MS B K w0 (w.setCell ⟨K, c, none⟩ u) sv lv st' S fr' nm' left' cnt' T where
  low := h.low
  bs := by simpa using h.bs
  head := by rw [← hc]; exact heap_setCell_same w K c _ 78 u h.head
  srow := row_same h.srow (fun k hk => heap_setCell_other _ _ _ _ (fun e => h.sown (by rw [hk, e])))
  lrow := row_same h.lrow (fun k hk => heap_setCell_other _ _ _ _ (fun e => h.lown (by rw [hk, e])))
  bel := h.bel.setCell (p := ⟨K, c, none⟩) h.low u
theorem MS.state (h : MS B K w0 w sv lv st S fr nm left cnt T) (s : Nat) : MS B K w0 (w.setCell ⟨K, 0, none⟩ (.int .u8 (s : Nat))) sv lv s S fr nm left cnt T := h.store (by simp)
theorem MS.from' (h : MS B K w0 w sv lv st S fr nm left cnt T) (s : Nat) : MS B K w0 (w.setCell ⟨K, 2, none⟩ (.int .i64 (s : Nat))) sv lv st S s nm left cnt T := h.store (by simp)
theorem MS.name (h : MS B K w0 w sv lv st S fr nm left cnt T) (s : Bool) : MS B K w0 (w.setCell ⟨K, 3, none⟩ (.bool s)) sv lv st S fr s left cnt T := h.store (by simp)
theorem MS.word (h : MS B K w0 w sv lv st S fr nm left cnt T) (s : ByteArray) : MS B K w0 (w.setCell ⟨K, 4, none⟩ (.string s)) sv lv st S fr nm s cnt T := h.store (by simp)
theorem MS.count (h : MS B K w0 w sv lv st S fr nm left cnt T) (s : Nat) : MS B K w0 (w.setCell ⟨K, 5, none⟩ (.int .i64 (s : Nat))) sv lv st S fr nm left s T := h.store (by simp)
/-- A token more. -/
theorem MS.push (h : MS B K w0 w sv lv st S fr nm left cnt T) {w3 : World} {v' : Value} {t : Tk} (hr : w3.ownsRow B 47 3 v' (T.length + 1) (rowT T ++ rowT [t])) (hg : w.grownBy w3 lv.ownBlock) :
    MS B K w0 (w3.setCell ⟨K, 6, none⟩ v') sv v' st S fr nm left cnt (T ++ [t]) where
  low := h.low
  bs := by simpa using Nat.le_trans h.bs hg.size
  head := by
    have hh3 := (hg.block K h.lt (fun e => h.lown e.symm)).trans h.head
    have := heap_setCell_same w3 K 6 _ 78 v' hh3
    simpa using this
  srow := row_same h.srow (fun k hk => by
    rw [heap_setCell_other _ _ _ _ (fun e => h.sown (by rw [hk, e]))]
    exact hg.block k (h.srow.lt k hk).2 (fun e => row_ne h.srow h.lrow (by decide) hk e.symm))
  lrow := by
    have hh3 := (hg.block K h.lt (fun e => h.lown e.symm)).trans h.head
    have n2 := row_head hr hh3 (by decide)
    rw [List.length_append, List.length_singleton, rowT_app]
    exact row_same hr (fun k hk => heap_setCell_other _ _ _ _ (fun e => n2 (by rw [hk, e])))
  bel := (h.bel.grown hg h.bs (fun k e => (h.lrow.lt k e).1)).setCell (p := ⟨K, 6, none⟩) h.low _
/-- Another list, or object, is open. -/
theorem MS.open' (h : MS B K w0 w sv lv st S fr nm left cnt T) {w3 : World} {v' : Value} {c : Nat} (hr : w3.ownsRow B 5 1 v' (S.length + 1) (rowB S ++ [.int .u8 (c : Nat)])) (hg : w.grownBy w3 sv.ownBlock) :
    MS B K w0 (w3.setCell ⟨K, 1, none⟩ v') v' lv st (c :: S) fr nm left cnt T where
  low := h.low
  bs := by simpa using Nat.le_trans h.bs hg.size
  head := by
    have hh3 := (hg.block K h.lt (fun e => h.sown e.symm)).trans h.head
    have := heap_setCell_same w3 K 1 _ 78 v' hh3
    simpa using this
  srow := by
    have hh3 := (hg.block K h.lt (fun e => h.sown e.symm)).trans h.head
    have n2 := row_head hr hh3 (by decide)
    rw [List.length_cons, rowB_cons]
    exact row_same hr (fun k hk => heap_setCell_other _ _ _ _ (fun e => n2 (by rw [hk, e])))
  lrow := row_same h.lrow (fun k hk => by
    rw [heap_setCell_other _ _ _ _ (fun e => h.lown (by rw [hk, e]))]
    exact hg.block k (h.lrow.lt k hk).2 (fun e => row_ne h.lrow h.srow (by decide) hk e.symm))
  bel := (h.bel.grown hg h.bs (fun k e => (h.srow.lt k e).1)).setCell (p := ⟨K, 1, none⟩) h.low _
/-- The innermost one is shut. -/
theorem MS.shut {c : Nat} {a : Option Addr} {cap : Nat} (h : MS B K w0 w (.slice a (S.length + 1) cap) lv st (c :: S) fr nm left cnt T) :
    MS B K w0 (w.setCell ⟨K, 1, none⟩ (.slice a S.length cap)) (.slice a S.length cap) lv st S fr nm left cnt T where
  low := h.low
  bs := by simpa using h.bs
  head := by
    have := heap_setCell_same w K 1 _ 78 (.slice a S.length cap) h.head
    simpa using this
  srow := by
    have hs := h.srow
    rcases hs.2 with ⟨e, h0⟩ | ⟨g, cp, cur, e, hbg, hg, hnc, hcm, hcs, ht⟩
    · simp at h0
    · injection e with e1 e2 e3
      subst e1 e3
      have hK : g ≠ K := fun e => h.sown (by simp [Value.ownBlock, e])
      refine ⟨by simp [rowB_len], Or.inr ⟨g, _, cur, rfl, hbg, (heap_setCell_other _ _ _ _ (fun e => hK e)).trans hg, by simp at hnc; omega, hcm, hcs, ?_⟩⟩
      rw [rowB_cons] at ht
      have := congrArg (List.take S.length) ht
      rw [List.take_take, List.take_left' (rowB_len S)] at this
      simpa [Nat.min_eq_left] using this
  lrow := row_same h.lrow (fun k hk => heap_setCell_other _ _ _ _ (fun e => h.lown (by rw [hk, e])))
  bel := h.bel.setCell (p := ⟨K, 1, none⟩) h.low _
end
set_option maxHeartbeats 2000000 in
theorem atom_any {B K' : Nat} {w0 w : World} {M : Mc} (h : MM B K' w0 w M) (i : Nat) (hs : M.fr ≤ i) (hib : i ≤ 1000000) (hT : M.l.length ≤ 1000000) :
    Calls Try.prog 44 #[.pointer (some ⟨K', 0, none⟩), .int .i64 (i : Nat)] w fun e w' => e = .returned (.tuple #[]) ∧ MM B K' w0 w' (atom M i) := by
  obtain ⟨i0, hi, hz0, hz1, hz2⟩ := info_parts info33
  obtain ⟨sv, lv, h⟩ := h
  have H := hidden (h.grown (grown_d w))
  clear h
  obtain ⟨st, S, fr, nm, left0, cnt, T⟩ := M
  simp only at H hs hT
  generalize hleft : strOf left0 = left at H
  go_enter Try.func44, Try.ntmps44
  go_wp2_with fail
  have wr1 : IntKind.i64.wrap ((i : Int) - (fr : Int)) = (i : Int) - (fr : Int) := IntWalk.i64_in _ (by omega)
  refine wp_region_held_drew (S := (fun u => u.cell? ⟨K', 2, none⟩ = some (.int .i64 (fr : Nat)))) (by kernel_rfl) H.out.c2 (fun hHeld => ?_)
  generalize w.drew = w1 at *
  have C1 : Hid (w1.cell? ⟨K', 2, none⟩ = some (.int .i64 (fr : Nat))) := H.out.c2
  refine take_dst 0 (some 4) rfl rfl (by kernel_rfl) (by kernel_rfl) (by kernel_rfl) (fun _ _ _ h => h) (v := ?_) (Or.inl ⟨by rfl, ?_⟩) (by assumption) ?_
  rotate_left
  · (intro w hSw; (try dsimp only at hSw); go_simp; try with_reducible rfl)
  simp only [Act.put, List.setIfInBounds_toArray, List.set_cons_zero, List.set_cons_succ]
  refine take_dst 1 (some 5) rfl rfl (by kernel_rfl) (by kernel_rfl) (by kernel_rfl) (fun _ _ _ h => h) (v := ?_) (Or.inl ⟨by rfl, ?_⟩) (by assumption) ?_
  rotate_left
  · (intro w hSw; (try dsimp only at hSw); go_simp; try with_reducible rfl)
  simp only [Act.put, List.setIfInBounds_toArray, List.set_cons_zero, List.set_cons_succ]
  refine take_dst 2 (some 6) rfl rfl (by kernel_rfl) (by kernel_rfl) (by kernel_rfl) (fun _ _ _ h => h) (v := ?_) (Or.inl ⟨by rfl, ?_⟩) (by assumption) ?_
  rotate_left
  · (intro w hSw; (try dsimp only at hSw); go_simp; try with_reducible rfl)
  simp only [Act.put, List.setIfInBounds_toArray, List.set_cons_zero, List.set_cons_succ]
  refine take_dst 3 (some 7) rfl rfl (by kernel_rfl) (by kernel_rfl) (by kernel_rfl) (fun _ _ _ h => h) (v := ?_) (Or.inl ⟨by rfl, ?_⟩) (by assumption) ?_
  rotate_left
  · (intro w hSw; (try dsimp only at hSw); go_simp; try with_reducible rfl)
  simp only [Act.put, List.setIfInBounds_toArray, List.set_cons_zero, List.set_cons_succ]
  refine take_dst 5 (some 9) rfl rfl (by kernel_rfl) (by kernel_rfl) (by kernel_rfl) (fun _ _ _ h => h) (v := ?_) (Or.inl ⟨by rfl, ?_⟩) (by assumption) ?_
  rotate_left
  · (intro w hSw; (try dsimp only at hSw); go_simp; try with_reducible rfl)
  simp only [Act.put, List.setIfInBounds_toArray, List.set_cons_zero, List.set_cons_succ]
  refine take_dst 6 (some 10) rfl rfl (by kernel_rfl) (by kernel_rfl) (by kernel_rfl) (fun _ _ _ h => h) (v := ?_) (Or.inl ⟨by rfl, ?_⟩) (by assumption) ?_
  rotate_left
  · (intro w hSw; (try dsimp only at hSw); go_simp; try with_reducible rfl)
  simp only [Act.put, List.setIfInBounds_toArray, List.set_cons_zero, List.set_cons_succ]
  refine take_dst 7 (some 11) rfl rfl (by kernel_rfl) (by kernel_rfl) (by kernel_rfl) (fun _ _ _ h => h) (v := ?_) (Or.inl ⟨by rfl, ?_⟩) (by assumption) ?_
  rotate_left
  · (intro w hSw; (try dsimp only at hSw); go_simp; try with_reducible rfl)
  simp only [Act.put, List.setIfInBounds_toArray, List.set_cons_zero, List.set_cons_succ]
  refine take_dst 8 (some 12) rfl rfl (by kernel_rfl) (by kernel_rfl) (by kernel_rfl) (fun _ _ _ h => h) (v := ?_) (Or.inl ⟨by rfl, ?_⟩) (by assumption) ?_
  rotate_left
  · (intro w hSw; (try dsimp only at hSw); go_simp; try with_reducible rfl)
  simp only [Act.put, List.setIfInBounds_toArray, List.set_cons_zero, List.set_cons_succ]
  refine take_dst 9 (some 13) rfl rfl (by kernel_rfl) (by kernel_rfl) (by kernel_rfl) (fun _ _ _ h => h) (v := ?_) (Or.inl ⟨by rfl, ?_⟩) (by assumption) ?_
  rotate_left
  · (intro w hSw; (try dsimp only at hSw); go_simp; try with_reducible rfl)
  simp only [Act.put, List.setIfInBounds_toArray, List.set_cons_zero, List.set_cons_succ]
  refine take_dst 10 (some 14) rfl rfl (by kernel_rfl) (by kernel_rfl) (by kernel_rfl) (fun _ _ _ h => h) (v := ?_) (Or.inl ⟨by rfl, ?_⟩) (by assumption) ?_
  rotate_left
  · (intro w hSw; (try dsimp only at hSw); go_simp; try with_reducible rfl)
  simp only [Act.put, List.setIfInBounds_toArray, List.set_cons_zero, List.set_cons_succ]
  refine take_dst 11 (some 15) rfl rfl (by kernel_rfl) (by kernel_rfl) (by kernel_rfl) (fun _ _ _ h => h) (v := ?_) (Or.inl ⟨by rfl, ?_⟩) (by assumption) ?_
  rotate_left
  · (intro w hSw; (try dsimp only at hSw); go_simp; try with_reducible rfl)
  simp only [Act.put, List.setIfInBounds_toArray, List.set_cons_zero, List.set_cons_succ]
  refine take_dst 12 (some 16) rfl rfl (by kernel_rfl) (by kernel_rfl) (by kernel_rfl) (fun _ _ _ h => h) (v := ?_) (Or.inl ⟨by rfl, ?_⟩) (by assumption) ?_
  rotate_left
  · (intro w hSw; (try dsimp only at hSw); go_simp; try with_reducible rfl)
  simp only [Act.put, List.setIfInBounds_toArray, List.set_cons_zero, List.set_cons_succ]
  refine take_dst 13 (some 17) rfl rfl (by kernel_rfl) (by kernel_rfl) (by kernel_rfl) (fun _ _ _ h => h) (v := ?_) (Or.inl ⟨by rfl, ?_⟩) (by assumption) ?_
  rotate_left
  · (intro w hSw; (try dsimp only at hSw); go_simp; try with_reducible rfl)
  simp only [Act.put, List.setIfInBounds_toArray, List.set_cons_zero, List.set_cons_succ]
  refine take_dst 14 (some 18) rfl rfl (by kernel_rfl) (by kernel_rfl) (by kernel_rfl) (fun _ _ _ h => h) (v := ?_) (Or.inl ⟨by rfl, ?_⟩) (by assumption) ?_
  rotate_left
  · (intro w hSw; (try dsimp only at hSw); go_simp; try with_reducible rfl)
  simp only [Act.put, List.setIfInBounds_toArray, List.set_cons_zero, List.set_cons_succ]
  refine take_dst 15 (some 19) rfl rfl (by kernel_rfl) (by kernel_rfl) (by kernel_rfl) (fun _ _ _ h => h) (v := ?_) (Or.inl ⟨by rfl, ?_⟩) (by assumption) ?_
  rotate_left
  · (intro w hSw; (try dsimp only at hSw); go_simp; try with_reducible rfl)
  simp only [Act.put, List.setIfInBounds_toArray, List.set_cons_zero, List.set_cons_succ]
  have H1 := hidden (H.out.grown (grownBy_alloc w1 (.cells #[.int .u8 5, .int .i64 (fr : Nat), .int .i64 ((i : Int) - (fr : Int))] 47)))
  have c3 := H.out.c6
  refine wpAnyH_ready (rs := [4, 16]) (by kernel_rfl) (by simp) ?_
  refine AllReadyH.cons rfl (fun K hK => ?_) (AllReadyH.cons rfl (fun K hK => ?_) AllReadyH.nil)
  · go_simp
    refine hK.out _ _ C1.out (fun hHeld1 => ?_)
    clear hK K hHeld1
    refine wpAnyH_ready (rs := [16]) (by kernel_rfl) (by simp) ?_
    refine AllReadyH.cons rfl (fun K hK => ?_) AllReadyH.nil
    go_simp
    refine hK.out _ _ H1.out.c2 (fun hHeld2 => ?_)
    clear hK K hHeld2 c3
    generalize hW : w1 = W at *
    refine wpAnyH_ready (rs := [17]) (by kernel_rfl) (by simp) ?_
    refine AllReadyH.cons rfl (fun K hK => ?_) AllReadyH.nil
    refine step_append_wh rfl (.tmp 8) (.tmp 20) 24 rfl B 47 i0 (.agg #[.int .u8 0, .int .i64 0, .int .i64 0]) 3 24 Try.underlying24 hi hz0 hz1 hz2 rfl (by decide) lv T.length (rowT T) (by simp [Act.eval]) H1.out.lrow ⟨W.heap.size, 0, none⟩ 1 1 [.int .u8 5, .int .i64 (fr : Nat), .int .i64 ((i : Int) - (fr : Int))] (by simp [Act.eval]) rfl (cells3e _ _ _ _ _) (by intro u hu; simp at hu; rcases hu with rfl | rfl | rfl <;> rfl) (by unfold maxLen; omega) (by omega) H1.out.bs (by decide) ?_
    intro v' w3 hr3 hg3 _
    have HP : Hid (MS B K' w0 (w3.setCell ⟨K', 6, none⟩ v') sv v' st S fr nm left cnt (T ++ [(5, fr, i - fr)])) := H1.out.push (by rw [rowT_one, show (((i - fr : Nat) : Nat) : Int) = (i : Int) - (fr : Int) by omega]; exact hr3.out) hg3.out
    have hd3 : w3.heap[K']? = some (.cells #[.int .u8 (st : Nat), sv, .int .i64 (fr : Nat), .bool nm, .string left, .int .i64 (cnt : Nat), lv] 78 (0, 0)) := (hg3.out.block K' H1.out.lt (fun e => H1.out.lown e.symm)).trans H1.out.head
    have e1 : w3.cell? ⟨K', 2, none⟩ = some (.int .i64 (fr : Nat)) := by simp only [World.cell?, hd3]; rfl
    have e3 : w3.cell? ⟨K', 6, none⟩ = some lv := by simp only [World.cell?, hd3]; rfl
    have f3 : w3.frozen? ⟨K', 6, none⟩ = false := frozen_of_row w3 K' 6 _ 78 hd3
    obtain ⟨va, vc, rfl⟩ := row_slice hr3.out
    have E1 : Hid ((w3.setCell ⟨K', 6, none⟩ (.slice va (T.length + 1) vc)).cell? ⟨K', 2, none⟩ = some (.int .i64 (fr : Nat))) := HP.out.c2
    have E3 := hidden e1
    clear hr3 hg3 hd3
    refine hK.out _ _ E3.out (fun hHeld4 => ?_)
    clear hK K
    refine take_dst 18 (some 22) rfl rfl (by kernel_rfl) (by kernel_rfl) (by kernel_rfl) (fun _ _ _ h => h) (v := ?_) (Or.inl ⟨by rfl, ?_⟩) (by assumption) ?_
    rotate_left
    · (intro w hSw; (try dsimp only at hSw); go_simp; try with_reducible rfl)
    simp only [Act.put, List.setIfInBounds_toArray]
    refine take_dst 19 (some 23) rfl rfl (by kernel_rfl) (by kernel_rfl) (by kernel_rfl) (fun _ _ _ h => h) (v := ?_) (Or.inl ⟨by rfl, ?_⟩) (by assumption) ?_
    rotate_left
    · (intro w hSw; (try dsimp only at hSw); go_simp; try with_reducible rfl)
    simp only [Act.put]
    refine wpAnyH_ready (rs := [20]) (by kernel_rfl) (by simp) ?_
    refine AllReadyH.cons rfl (fun K hK => ?_) AllReadyH.nil
    go_simp
    refine hK.out _ _ E1.out (fun hHeld5 => ?_)
    clear hK K
    refine wpAnyH_done (by kernel_rfl) ?_ _
    clear hHeld4 hHeld5 e1 e3 f3
    generalize w3.setCell ⟨K', 6, none⟩ (.slice va (T.length + 1) vc) = w4 at *
    have c0 := HP.out.c0
    have f0 := HP.out.free 0
    have H5 := hidden (HP.out.state 5)
    have c3 := HP.out.c3
    have f3 := HP.out.free 3
    cases nm with
    | true =>
      have H6 := hidden (H5.out.state 4)
      have H7 := hidden (H6.out.name false)
      go_wp2_with fail
      go_end0
      subst hleft
      exact ⟨rfl, _, _, by simpa [atom] using H7.out⟩
    | false =>
      go_wp2_with fail
      go_end0
      subst hleft
      exact ⟨rfl, _, _, by simpa [atom] using H5.out⟩
  · go_simp
    refine hK.out _ _ H1.out.c2 (fun hHeld1 => ?_)
    clear hK K hHeld1
    have c31 := H1.out.c6
    refine wpAnyH_ready (rs := [4]) (by kernel_rfl) (by simp) ?_
    refine AllReadyH.cons rfl (fun K hK => ?_) AllReadyH.nil
    go_simp
    refine hK.out _ _ H1.out.c2 (fun hHeld2 => ?_)
    clear hK K hHeld2 c31 c3
    generalize hW : w1 = W at *
    refine wpAnyH_ready (rs := [17]) (by kernel_rfl) (by simp) ?_
    refine AllReadyH.cons rfl (fun K hK => ?_) AllReadyH.nil
    refine step_append_wh rfl (.tmp 8) (.tmp 20) 24 rfl B 47 i0 (.agg #[.int .u8 0, .int .i64 0, .int .i64 0]) 3 24 Try.underlying24 hi hz0 hz1 hz2 rfl (by decide) lv T.length (rowT T) (by simp [Act.eval]) H1.out.lrow ⟨W.heap.size, 0, none⟩ 1 1 [.int .u8 5, .int .i64 (fr : Nat), .int .i64 ((i : Int) - (fr : Int))] (by simp [Act.eval]) rfl (cells3e _ _ _ _ _) (by intro u hu; simp at hu; rcases hu with rfl | rfl | rfl <;> rfl) (by unfold maxLen; omega) (by omega) H1.out.bs (by decide) ?_
    intro v' w3 hr3 hg3 _
    have HP : Hid (MS B K' w0 (w3.setCell ⟨K', 6, none⟩ v') sv v' st S fr nm left cnt (T ++ [(5, fr, i - fr)])) := H1.out.push (by rw [rowT_one, show (((i - fr : Nat) : Nat) : Int) = (i : Int) - (fr : Int) by omega]; exact hr3.out) hg3.out
    have hd3 : w3.heap[K']? = some (.cells #[.int .u8 (st : Nat), sv, .int .i64 (fr : Nat), .bool nm, .string left, .int .i64 (cnt : Nat), lv] 78 (0, 0)) := (hg3.out.block K' H1.out.lt (fun e => H1.out.lown e.symm)).trans H1.out.head
    have e1 : w3.cell? ⟨K', 2, none⟩ = some (.int .i64 (fr : Nat)) := by simp only [World.cell?, hd3]; rfl
    have e3 : w3.cell? ⟨K', 6, none⟩ = some lv := by simp only [World.cell?, hd3]; rfl
    have f3 : w3.frozen? ⟨K', 6, none⟩ = false := frozen_of_row w3 K' 6 _ 78 hd3
    obtain ⟨va, vc, rfl⟩ := row_slice hr3.out
    have E1 : Hid ((w3.setCell ⟨K', 6, none⟩ (.slice va (T.length + 1) vc)).cell? ⟨K', 2, none⟩ = some (.int .i64 (fr : Nat))) := HP.out.c2
    have E3 := hidden e1
    clear hr3 hg3 hd3
    refine hK.out _ _ E3.out (fun hHeld4 => ?_)
    clear hK K
    refine take_dst 18 (some 22) rfl rfl (by kernel_rfl) (by kernel_rfl) (by kernel_rfl) (fun _ _ _ h => h) (v := ?_) (Or.inl ⟨by rfl, ?_⟩) (by assumption) ?_
    rotate_left
    · (intro w hSw; (try dsimp only at hSw); go_simp; try with_reducible rfl)
    simp only [Act.put, List.setIfInBounds_toArray]
    refine take_dst 19 (some 23) rfl rfl (by kernel_rfl) (by kernel_rfl) (by kernel_rfl) (fun _ _ _ h => h) (v := ?_) (Or.inl ⟨by rfl, ?_⟩) (by assumption) ?_
    rotate_left
    · (intro w hSw; (try dsimp only at hSw); go_simp; try with_reducible rfl)
    simp only [Act.put]
    refine wpAnyH_ready (rs := [20]) (by kernel_rfl) (by simp) ?_
    refine AllReadyH.cons rfl (fun K hK => ?_) AllReadyH.nil
    go_simp
    refine hK.out _ _ E1.out (fun hHeld5 => ?_)
    clear hK K
    refine wpAnyH_done (by kernel_rfl) ?_ _
    clear hHeld4 hHeld5 e1 e3 f3
    generalize w3.setCell ⟨K', 6, none⟩ (.slice va (T.length + 1) vc) = w4 at *
    have c0 := HP.out.c0
    have f0 := HP.out.free 0
    have H5 := hidden (HP.out.state 5)
    have c3 := HP.out.c3
    have f3 := HP.out.free 3
    cases nm with
    | true =>
      have H6 := hidden (H5.out.state 4)
      have H7 := hidden (H6.out.name false)
      go_wp2_with fail
      go_end0
      subst hleft
      exact ⟨rfl, _, _, by simpa [atom] using H7.out⟩
    | false =>
      go_wp2_with fail
      go_end0
      subst hleft
      exact ⟨rfl, _, _, by simpa [atom] using H5.out⟩
set_option maxHeartbeats 2000000 in
theorem one_any {B K : Nat} {w0 w : World} {M : Mc} (h : MM B K w0 w M) (k i s : Nat) (hT : M.l.length ≤ 1000000) :
    Calls Try.prog 71 #[.pointer (some ⟨K, 0, none⟩), .int .u8 (k : Nat), .int .i64 (i : Nat), .int .u8 (s : Nat)] w fun e w' => e = .returned (.tuple #[]) ∧ MM B K w0 w' (one M k i s) := by
  obtain ⟨i0, hi, hz0, hz1, hz2⟩ := info_parts info33
  obtain ⟨sv, lv, h⟩ := h
  obtain ⟨st, S, fr, nm, left0, cnt, T⟩ := M
  simp only at h hT
  have c6 := h.c6
  have H1 := hidden (h.grown (grownBy_alloc w (.cells #[.int .u8 (k : Nat), .int .i64 (i : Nat), .int .i64 1] 47)))
  have hown := H1.out.lrow
  clear h
  go_enter Try.func71, Try.ntmps71
  go_wp2_with (at_builtin; refine wpList_append_at _ rfl _ _ 24 rfl B 47 i0 (.agg #[.int .u8 0, .int .i64 0, .int .i64 0]) 3 24 Try.underlying24 hi hz0 hz1 hz2 rfl (by decide) _ _ _ rfl hown ⟨w.heap.size, 0, none⟩ 1 1 [.int .u8 (k : Nat), .int .i64 (i : Nat), .int .i64 1] rfl rfl ?c1 ?c2 ?c3 ?c4 ?c5 ?c6 ?_)
  case c1 => exact cells3e _ _ _ _ _
  case c2 => intro u hu; simp at hu; rcases hu with rfl | rfl | rfl <;> rfl
  case c3 => unfold maxLen; omega
  case c4 => omega
  case c5 => exact H1.out.bs
  case c6 => decide
  intro v' w3 hr3 hg3 _
  have HP : Hid (MS B K w0 (w3.setCell ⟨K, 6, none⟩ v') sv v' st S fr nm (strOf left0) cnt (T ++ [(k, i, 1)])) := H1.out.push (by rw [rowT_one]; exact hr3) hg3
  have hd3 := (hg3.block K H1.out.lt (fun e => H1.out.lown e.symm)).trans H1.out.head
  have e3 : w3.cell? ⟨K, 6, none⟩ = some lv := by simp only [World.cell?, hd3]; rfl
  have f3 : w3.frozen? ⟨K, 6, none⟩ = false := frozen_of_row w3 K 6 _ 78 hd3
  have c0 := HP.out.c0
  have f0 := HP.out.free 0
  obtain ⟨va, vc, rfl⟩ := row_slice hr3
  have H5 := hidden (HP.out.state s)
  clear hr3 hg3 hd3 hown
  go_wp2_with fail
  go_end0
  exact ⟨rfl, _, _, by simpa [one] using H5.out⟩
end Go.Proofs.PlatenJson

/- What next and begin of the document's machine come to. -/
namespace Go.Proofs.PlatenJson
open Go Go.RowKit
set_option linter.unusedVariables false
set_option maxRecDepth 100000

/-- A call of the machine's answers what the plain function does. -/
def Does (B K : Nat) (w0 : World) (p : Nat × Mc) (e : Ending) (w : World) : Prop := e = .returned (.int .i64 (p.1 : Nat)) ∧ MM B K w0 w p.2
section
variable {B K : Nat} {w0 w : World}
theorem MS.top {sv lv : Value} {st b : Nat} {S : List Nat} {fr : Nat} {nm : Bool} {left : ByteArray} {cnt : Nat} {T : List Tk} (h : MS B K w0 w sv lv st (b :: S) fr nm left cnt T) :
    ∃ g cap, sv = .slice (some ⟨g, 0, none⟩) (S.length + 1) cap ∧ w.cell? ⟨g, S.length, none⟩ = some (.int .u8 (b : Nat)) ∧ S.length + 1 ≤ cap := by
  have hs := h.srow
  have hcl := fun g => hs.cells (g := g)
  rcases hs.2 with ⟨e, h0⟩ | ⟨g, cp, cur, e, hbg, hg, hnc, hcm, hcs, ht⟩
  · simp at h0
  · refine ⟨g, cp, e, ?_, by simpa using hnc⟩
    have := hcl g (by rw [e]; rfl) S.length (.int .u8 (b : Nat)) (by rw [rowB_cons, List.getElem?_append_right (by rw [rowB_len]; exact Nat.le_refl _), rowB_len]; simp)
    have ea : ∀ j, (⟨g, 0, none⟩ : Addr).add j = ⟨g, j, none⟩ := fun j => by unfold Addr.add; split <;> simp_all
    rwa [ea] at this
set_option maxHeartbeats 4000000 in
theorem next_any {M : Mc} (h : MM B K w0 w M) (c i : Nat) (hS : M.stack.length ≤ 512) (hT : M.l.length ≤ 1000000) :
    Calls Try.prog 70 #[.pointer (some ⟨K, 0, none⟩), .int .u8 (c : Nat), .int .i64 (i : Nat)] w (Does B K w0 (next M c i)) := by
  obtain ⟨sv, lv, h⟩ := h
  obtain ⟨st, S, fr, nm, left, cnt, T⟩ := M
  simp only at h hS hT
  cases S with
  | nil =>
    have c1 := h.c1
    obtain ⟨va, vc, hv⟩ := row_slice h.srow
    rw [hv] at c1
    have H := hidden h
    clear h hv
    go_enter Try.func70, Try.ntmps70
    go_wp2_with fail
    go_ret
    exact ⟨rfl, _, _, H.out⟩
  | cons b S =>
    obtain ⟨g, cap, rfl, hb, hcap⟩ := h.top
    have c1 := h.c1
    have hlen : S.length ≤ 511 := by simp at hS; omega
    have H := hidden h
    have HM : Hid (MM B K w0 w ⟨st, b :: S, fr, nm, left, cnt, T⟩) := ⟨_, _, h⟩
    clear hS
    have hk : ((S.length + 1 : Nat) : Int) - 1 = (S.length : Int) := by omega
    skip
    obtain ⟨m, hm⟩ : ∃ m, S.length = m := ⟨_, rfl⟩
    have Hm := hidden hm
    rw [hm] at c1 hb hlen hcap
    clear h hm
    have hkz : ¬ ((m : Int) < 0) := by omega
    have hkl : (m : Int) < (m : Int) + 1 := by omega
    by_cases hb91 : b = 91
    · have zb : ((b : Int) == 91) = true := by simp; omega
      by_cases h44 : c = 44
      · have z44 : ((c : Int) == 44) = true := by simp; omega
        have e1 : Hid (next ⟨st, b :: S, fr, nm, left, cnt, T⟩ c i = (0, one ⟨st, b :: S, fr, nm, left, cnt, T⟩ 3 i 0)) := by unfold Hid; simp [next, h44, hb91]
        have co := one_any HM.out 3 i 0 hT
        clear HM h44
        go_enter Try.func70, Try.ntmps70
        go_wp2_with fail
        refine co.mono ?_
        rintro e w2 ⟨rfl, h2⟩
        have H2 := hidden h2
        clear co h2
        go_wp2_with fail
        go_ret
        rw [e1.out]
        exact ⟨rfl, H2.out⟩
      have z44 : ((c : Int) == 44) = false := by simp; omega
      by_cases h93 : c = 93
      · have z93 : ((c : Int) == 93) = true := by simp; omega
        have e1 : Hid (next ⟨st, b :: S, fr, nm, left, cnt, T⟩ c i = (0, one ⟨st, S, fr, nm, left, cnt, T⟩ 2 i 5)) := by unfold Hid; simp [next, h93, hb91, one]
        have f1 := H.out.free 1
        have H3 := hidden H.out.shut
        rw [Hm.out] at H3
        have co := one_any (M := ⟨st, S, fr, nm, left, cnt, T⟩) ⟨_, _, H3.out⟩ 2 i 5 hT
        clear HM h44 h93
        go_enter Try.func70, Try.ntmps70
        go_wp2_with fail
        refine co.mono ?_
        rintro e w2 ⟨rfl, h2⟩
        have H2 := hidden h2
        clear co h2
        go_wp2_with fail
        go_ret
        rw [e1.out]
        exact ⟨rfl, H2.out⟩
      have z93 : ((c : Int) == 93) = false := by simp; omega
      have e1 : Hid (next ⟨st, b :: S, fr, nm, left, cnt, T⟩ c i = (5, ⟨st, b :: S, fr, nm, left, cnt, T⟩)) := by unfold Hid; simp [next, h44, h93, hb91]
      clear h44 h93 hb91
      cases z125 : ((c : Int) == 125) with
      | true =>
        go_enter Try.func70, Try.ntmps70
        go_wp2_with fail
        go_ret
        rw [e1.out]
        exact ⟨rfl, HM.out⟩
      | false =>
        go_enter Try.func70, Try.ntmps70
        go_wp2_with fail
        go_ret
        rw [e1.out]
        exact ⟨rfl, HM.out⟩
    · have zb : ((b : Int) == 91) = false := by simp; omega
      by_cases h44 : c = 44
      · have z44 : ((c : Int) == 44) = true := by simp; omega
        have e1 : Hid (next ⟨st, b :: S, fr, nm, left, cnt, T⟩ c i = (0, one ⟨st, b :: S, fr, nm, left, cnt, T⟩ 3 i 3)) := by unfold Hid; simp [next, h44, hb91]
        have co := one_any HM.out 3 i 3 hT
        clear HM h44
        go_enter Try.func70, Try.ntmps70
        go_wp2_with fail
        refine co.mono ?_
        rintro e w2 ⟨rfl, h2⟩
        have H2 := hidden h2
        clear co h2
        go_wp2_with fail
        go_ret
        rw [e1.out]
        exact ⟨rfl, H2.out⟩
      have z44 : ((c : Int) == 44) = false := by simp; omega
      by_cases h125 : c = 125
      · have z93 : ((c : Int) == 93) = false := by simp; omega
        have z125 : ((c : Int) == 125) = true := by simp; omega
        have e1 : Hid (next ⟨st, b :: S, fr, nm, left, cnt, T⟩ c i = (0, one ⟨st, S, fr, nm, left, cnt, T⟩ 2 i 5)) := by unfold Hid; simp [next, h125, hb91, one]
        have f1 := H.out.free 1
        have H3 := hidden H.out.shut
        rw [Hm.out] at H3
        have co := one_any (M := ⟨st, S, fr, nm, left, cnt, T⟩) ⟨_, _, H3.out⟩ 2 i 5 hT
        clear HM h44 h125
        go_enter Try.func70, Try.ntmps70
        go_wp2_with fail
        refine co.mono ?_
        rintro e w2 ⟨rfl, h2⟩
        have H2 := hidden h2
        clear co h2
        go_wp2_with fail
        go_ret
        rw [e1.out]
        exact ⟨rfl, H2.out⟩
      have z125 : ((c : Int) == 125) = false := by simp; omega
      have e1 : Hid (next ⟨st, b :: S, fr, nm, left, cnt, T⟩ c i = (5, ⟨st, b :: S, fr, nm, left, cnt, T⟩)) := by unfold Hid; simp [next, h44, h125, hb91]
      clear h44 h125
      cases z93 : ((c : Int) == 93) with
      | true =>
        go_enter Try.func70, Try.ntmps70
        go_wp2_with fail
        go_ret
        rw [e1.out]
        exact ⟨rfl, HM.out⟩
      | false =>
        go_enter Try.func70, Try.ntmps70
        go_wp2_with fail
        go_ret
        rw [e1.out]
        exact ⟨rfl, HM.out⟩
end
end Go.Proofs.PlatenJson

/- What begin and inside of the document's machine come to. -/
namespace Go.Proofs.PlatenJson
open Go Go.RowKit
set_option linter.unusedVariables false
set_option maxRecDepth 100000
section
variable {B K : Nat} {w0 w : World}
theorem cell_new (X : World) (t : TypeId) (a : Value) : (X.alloc (.cells #[a] t)).cell? ⟨X.heap.size, 0, none⟩ = some a := by
  have := heap_alloc_new X (.cells #[a] t)
  unfold World.cell?
  rw [this]
  rfl
set_option maxHeartbeats 4000000 in
theorem begin_any {M : Mc} (h : MM B K w0 w M) (c i : Nat) (hc : c < 256) (hS : M.stack.length ≤ 512) (hT : M.l.length ≤ 1000000) :
    Calls Try.prog 69 #[.pointer (some ⟨K, 0, none⟩), .int .u8 (c : Nat), .int .i64 (i : Nat)] w (Does B K w0 (begin' M c i)) := by
  obtain ⟨sv, lv, h⟩ := h
  obtain ⟨st, S, fr, nm, left, cnt, T⟩ := M
  simp only at h hS hT
  have c2 := h.c2
  have f2 := h.free 2
  have H := hidden (h.from' i)
  have c0 := h.c0
  have f0 := h.free 0
  have c4 := h.c4
  have f4 := h.free 4
  have c1 := h.c1
  have f1 := h.free 1
  have cd := digit_any c (w.setCell ⟨K, 2, none⟩ (.int .i64 (i : Nat))) hc
  clear h
  by_cases h123 : c = 123
  · have z123 : ((c : Int) == 123) = true := by simp; omega
    obtain ⟨va, vc, hv⟩ := row_slice H.out.srow
    subst hv
    by_cases hd : S.length = 512
    · have e1 : Hid (begin' ⟨st, S, fr, nm, left, cnt, T⟩ c i = (6, ⟨st, S, i, nm, left, cnt, T⟩)) := by unfold Hid; simp [begin', h123, hd]
      have zd : ((S.length : Int) == 512) = true := by simp; omega
      clear hd h123
      go_enter Try.func69, Try.ntmps69
      go_wp2_with fail
      go_ret
      rw [e1.out]
      exact ⟨rfl, _, _, H.out⟩
    · have e1 : Hid (begin' ⟨st, S, fr, nm, left, cnt, T⟩ c i = (0, ⟨2, c :: S, i, nm, left, cnt, T ++ [(1, i, 1)]⟩)) := by unfold Hid; simp [begin', h123, hd]
      have zd : ((S.length : Int) == 512) = false := by simp; omega
      have hl5 : S.length ≤ 511 := by omega
      obtain ⟨i0, hi, hz0, hz1, hz2⟩ := info_parts info5
      have H1 := hidden (H.out.grown (grownBy_alloc (w.setCell ⟨K, 2, none⟩ (.int .i64 (i : Nat))) (.cells #[.int .u8 (c : Nat)] 5)))
      have hown := H1.out.srow
      clear hd h123 cd H
      go_enter Try.func69, Try.ntmps69
      go_wp2_with (at_builtin; refine wpList_append_at _ rfl _ _ 22 rfl B 5 i0 (.int .u8 0) 1 1 Try.underlying22 hi hz0 hz1 hz2 rfl (by decide) _ _ _ rfl hown ⟨w.heap.size, 0, none⟩ 1 1 [.int .u8 (c : Nat)] (by simp [Act.eval]) rfl ?c1 ?c2 ?c3 ?c4 ?c5 ?c6 ?_)
      case c1 =>
        intro j u hj
        match j, hj with
        | 0, hj =>
          simp at hj
          subst hj
          have := cell_new (w.setCell ⟨K, 2, none⟩ (.int .i64 (i : Nat))) 5 (.int .u8 (c : Nat))
          simpa [Addr.add] using this
        | j + 1, hj => simp at hj
      case c2 => intro u hu; simp at hu; rcases hu with rfl; rfl
      case c3 => unfold maxLen; omega
      case c4 => omega
      case c5 => exact H1.out.bs
      case c6 => decide
      intro v' w3 hr3 hg3 _
      have HP : Hid (MS B K w0 (w3.setCell ⟨K, 1, none⟩ v') v' lv st (c :: S) i nm (strOf left) cnt T) := H1.out.open' hr3 hg3
      have hd3 := (hg3.block K H1.out.lt (fun e => H1.out.sown e.symm)).trans H1.out.head
      have e3 : w3.cell? ⟨K, 1, none⟩ = some (.slice va S.length vc) := by simp only [World.cell?, hd3]; rfl
      have f3 : w3.frozen? ⟨K, 1, none⟩ = false := frozen_of_row w3 K 1 _ 78 hd3
      obtain ⟨va', vc', rfl⟩ := row_slice hr3
      have co := one_any (M := ⟨st, c :: S, i, nm, left, cnt, T⟩) ⟨_, _, HP.out⟩ 1 i 1 hT
      clear hr3 hg3 hd3 hown
      go_wp2_with fail
      refine co.mono ?_
      rintro e w4 ⟨rfl, sv4, lv4, h4⟩
      simp only [one] at h4
      have c04 := h4.c0
      have f04 := h4.free 0
      have H5 := hidden (h4.state 2)
      clear co h4
      go_wp2_with fail
      go_ret
      rw [e1.out]
      exact ⟨rfl, _, _, H5.out⟩
  have z123 : ((c : Int) == 123) = false := by simp; omega
  by_cases h91 : c = 91
  · have z91 : ((c : Int) == 91) = true := by simp; omega
    obtain ⟨va, vc, hv⟩ := row_slice H.out.srow
    subst hv
    by_cases hd : S.length = 512
    · have e1 : Hid (begin' ⟨st, S, fr, nm, left, cnt, T⟩ c i = (6, ⟨st, S, i, nm, left, cnt, T⟩)) := by unfold Hid; simp [begin', h91, hd]
      have zd : ((S.length : Int) == 512) = true := by simp; omega
      clear hd h91
      go_enter Try.func69, Try.ntmps69
      go_wp2_with fail
      go_ret
      rw [e1.out]
      exact ⟨rfl, _, _, H.out⟩
    · have e1 : Hid (begin' ⟨st, S, fr, nm, left, cnt, T⟩ c i = (0, ⟨1, c :: S, i, nm, left, cnt, T ++ [(1, i, 1)]⟩)) := by unfold Hid; simp [begin', h91, hd]
      have zd : ((S.length : Int) == 512) = false := by simp; omega
      have hl5 : S.length ≤ 511 := by omega
      obtain ⟨i0, hi, hz0, hz1, hz2⟩ := info_parts info5
      have H1 := hidden (H.out.grown (grownBy_alloc (w.setCell ⟨K, 2, none⟩ (.int .i64 (i : Nat))) (.cells #[.int .u8 (c : Nat)] 5)))
      have hown := H1.out.srow
      clear hd h91 cd H
      go_enter Try.func69, Try.ntmps69
      go_wp2_with (at_builtin; refine wpList_append_at _ rfl _ _ 22 rfl B 5 i0 (.int .u8 0) 1 1 Try.underlying22 hi hz0 hz1 hz2 rfl (by decide) _ _ _ rfl hown ⟨w.heap.size, 0, none⟩ 1 1 [.int .u8 (c : Nat)] (by simp [Act.eval]) rfl ?c1 ?c2 ?c3 ?c4 ?c5 ?c6 ?_)
      case c1 =>
        intro j u hj
        match j, hj with
        | 0, hj =>
          simp at hj
          subst hj
          have := cell_new (w.setCell ⟨K, 2, none⟩ (.int .i64 (i : Nat))) 5 (.int .u8 (c : Nat))
          simpa [Addr.add] using this
        | j + 1, hj => simp at hj
      case c2 => intro u hu; simp at hu; rcases hu with rfl; rfl
      case c3 => unfold maxLen; omega
      case c4 => omega
      case c5 => exact H1.out.bs
      case c6 => decide
      intro v' w3 hr3 hg3 _
      have HP : Hid (MS B K w0 (w3.setCell ⟨K, 1, none⟩ v') v' lv st (c :: S) i nm (strOf left) cnt T) := H1.out.open' hr3 hg3
      have hd3 := (hg3.block K H1.out.lt (fun e => H1.out.sown e.symm)).trans H1.out.head
      have e3 : w3.cell? ⟨K, 1, none⟩ = some (.slice va S.length vc) := by simp only [World.cell?, hd3]; rfl
      have f3 : w3.frozen? ⟨K, 1, none⟩ = false := frozen_of_row w3 K 1 _ 78 hd3
      obtain ⟨va', vc', rfl⟩ := row_slice hr3
      have co := one_any (M := ⟨st, c :: S, i, nm, left, cnt, T⟩) ⟨_, _, HP.out⟩ 1 i 1 hT
      clear hr3 hg3 hd3 hown
      go_wp2_with fail
      refine co.mono ?_
      rintro e w4 ⟨rfl, sv4, lv4, h4⟩
      simp only [one] at h4
      have H5 := hidden h4
      clear co h4
      go_wp2_with fail
      go_ret
      rw [e1.out]
      exact ⟨rfl, _, _, H5.out⟩
  have z91 : ((c : Int) == 91) = false := by simp; omega
  by_cases h34 : c = 34
  · have z34 : ((c : Int) == 34) = true := by simp; omega
    have e1 : Hid (begin' ⟨st, S, fr, nm, left, cnt, T⟩ c i = (0, ⟨6, S, i, nm, left, cnt, T⟩)) := by unfold Hid; simp [begin', h34]
    have H5 := hidden (H.out.state 6)
    clear h34 h123 h91
    go_enter Try.func69, Try.ntmps69
    go_wp2_with fail
    go_ret
    rw [e1.out]
    exact ⟨rfl, _, _, H5.out⟩
  have z34 : ((c : Int) == 34) = false := by simp; omega
  by_cases h45 : c = 45
  · have z45 : ((c : Int) == 45) = true := by simp; omega
    have e1 : Hid (begin' ⟨st, S, fr, nm, left, cnt, T⟩ c i = (0, ⟨9, S, i, nm, left, cnt, T⟩)) := by unfold Hid; simp [begin', h45]
    have H5 := hidden (H.out.state 9)
    clear h45 h123 h91 h34
    go_enter Try.func69, Try.ntmps69
    go_wp2_with fail
    go_ret
    rw [e1.out]
    exact ⟨rfl, _, _, H5.out⟩
  have z45 : ((c : Int) == 45) = false := by simp; omega
  by_cases h48 : c = 48
  · have z48 : ((c : Int) == 48) = true := by simp; omega
    have e1 : Hid (begin' ⟨st, S, fr, nm, left, cnt, T⟩ c i = (0, ⟨10, S, i, nm, left, cnt, T⟩)) := by unfold Hid; simp [begin', h48]
    have H5 := hidden (H.out.state 10)
    clear h48 h123 h91 h34 h45
    go_enter Try.func69, Try.ntmps69
    go_wp2_with fail
    go_ret
    rw [e1.out]
    exact ⟨rfl, _, _, H5.out⟩
  have z48 : ((c : Int) == 48) = false := by simp; omega
  by_cases hD : isD c = true
  · have e1 : Hid (begin' ⟨st, S, fr, nm, left, cnt, T⟩ c i = (0, ⟨11, S, i, nm, left, cnt, T⟩)) := by unfold Hid; simp [begin', h123, h91, h34, h45, h48, hD]
    rw [hD] at cd
    have H5 := hidden (H.out.state 11)
    clear h123 h91 h34 h45 h48 hD
    go_enter Try.func69, Try.ntmps69
    go_wp2_with fail
    refine cd.mono ?_
    rintro e w2 ⟨rfl, rfl⟩
    go_wp2_with fail
    go_ret
    rw [e1.out]
    exact ⟨rfl, _, _, H5.out⟩
  have hD' : isD c = false := by simpa using hD
  rw [hD'] at cd
  by_cases h116 : c = 116
  · have z116 : ((c : Int) == 116) = true := by simp; omega
    have e1 : Hid (begin' ⟨st, S, fr, nm, left, cnt, T⟩ c i = (0, ⟨17, S, i, nm, [114, 117, 101], cnt, T⟩)) := by unfold Hid; subst h116; simp [begin', isD]
    have H5 := hidden ((H.out.state 17).word (strOf [114, 117, 101]))
    have es : Hid (strOf [114, 117, 101] = ⟨#[114, 117, 101]⟩) := rfl
    rw [es.out] at H5
    clear h116 hD hD' h123 h91 h34 h45 h48
    go_enter Try.func69, Try.ntmps69
    go_wp2_with fail
    refine cd.mono ?_
    rintro e w2 ⟨rfl, rfl⟩
    go_wp2_with fail
    go_ret
    rw [e1.out]
    exact ⟨rfl, _, _, H5.out⟩
  have z116 : ((c : Int) == 116) = false := by simp; omega
  by_cases h102 : c = 102
  · have z102 : ((c : Int) == 102) = true := by simp; omega
    have e1 : Hid (begin' ⟨st, S, fr, nm, left, cnt, T⟩ c i = (0, ⟨17, S, i, nm, [97, 108, 115, 101], cnt, T⟩)) := by unfold Hid; subst h102; simp [begin', isD]
    have H5 := hidden ((H.out.state 17).word (strOf [97, 108, 115, 101]))
    have es : Hid (strOf [97, 108, 115, 101] = ⟨#[97, 108, 115, 101]⟩) := rfl
    rw [es.out] at H5
    clear h102 hD hD' h123 h91 h34 h45 h48 h116
    go_enter Try.func69, Try.ntmps69
    go_wp2_with fail
    refine cd.mono ?_
    rintro e w2 ⟨rfl, rfl⟩
    go_wp2_with fail
    go_ret
    rw [e1.out]
    exact ⟨rfl, _, _, H5.out⟩
  have z102 : ((c : Int) == 102) = false := by simp; omega
  by_cases h110 : c = 110
  · have z110 : ((c : Int) == 110) = true := by simp; omega
    have e1 : Hid (begin' ⟨st, S, fr, nm, left, cnt, T⟩ c i = (0, ⟨17, S, i, nm, [117, 108, 108], cnt, T⟩)) := by unfold Hid; subst h110; simp [begin', isD]
    have H5 := hidden ((H.out.state 17).word (strOf [117, 108, 108]))
    have es : Hid (strOf [117, 108, 108] = ⟨#[117, 108, 108]⟩) := rfl
    rw [es.out] at H5
    clear h110 hD hD' h123 h91 h34 h45 h48 h116 h102
    go_enter Try.func69, Try.ntmps69
    go_wp2_with fail
    refine cd.mono ?_
    rintro e w2 ⟨rfl, rfl⟩
    go_wp2_with fail
    go_ret
    rw [e1.out]
    exact ⟨rfl, _, _, H5.out⟩
  have z110 : ((c : Int) == 110) = false := by simp; omega
  have e1 : Hid (begin' ⟨st, S, fr, nm, left, cnt, T⟩ c i = (5, ⟨st, S, i, nm, left, cnt, T⟩)) := by unfold Hid; simp [begin', h123, h91, h34, h45, h48, hD', h116, h102, h110]
  clear h123 h91 h34 h45 h48 hD hD' h116 h102 h110
  go_enter Try.func69, Try.ntmps69
  go_wp2_with fail
  refine cd.mono ?_
  rintro e w2 ⟨rfl, rfl⟩
  go_wp2_with fail
  go_ret
  rw [e1.out]
  exact ⟨rfl, _, _, H.out⟩
end
end Go.Proofs.PlatenJson

/- What inside of the document's machine comes to. -/
namespace Go.Proofs.PlatenJson
open Go Go.RowKit
set_option linter.unusedVariables false
set_option maxRecDepth 100000
section
variable {B K : Nat} {w0 w : World}
set_option maxHeartbeats 4000000 in
theorem inside6 {sv lv : Value} {S : List Nat} {fr : Nat} {nm : Bool} {left : List Nat} {cnt : Nat} {T : List Tk} (h : MS B K w0 w sv lv 6 S fr nm (strOf left) cnt T) (c i : Nat) (hc : c < 256) (hi : i ≤ 100000) (hf : fr ≤ i) (hT : T.length ≤ 1000000) :
    Calls Try.prog 68 #[.pointer (some ⟨K, 0, none⟩), .int .u8 (c : Nat), .int .i64 (i : Nat)] w (Does B K w0 (inside ⟨6, S, fr, nm, left, cnt, T⟩ c i)) := by
  have c0 := h.c0
  have f0 := h.free 0
  have H := hidden h
  have hi1 : ((i + 1 : Nat) : Int) = (i : Int) + 1 := by omega
  by_cases h32 : c < 32
  · have z32 : (c : Int) < 32 := by omega
    have e1 : Hid (inside ⟨6, S, fr, nm, left, cnt, T⟩ c i = (5, ⟨6, S, fr, nm, left, cnt, T⟩)) := by unfold Hid; simp [inside, h32]
    clear h h32
    go_enter Try.func68, Try.ntmps68
    go_wp2_with fail
    go_ret
    rw [e1.out]
    exact ⟨rfl, _, _, H.out⟩
  have z32 : ¬ ((c : Int) < 32) := by omega
  by_cases h34 : c = 34
  · have z34 : ((c : Int) == 34) = true := by simp; omega
    have e1 : Hid (inside ⟨6, S, fr, nm, left, cnt, T⟩ c i = (0, atom ⟨6, S, fr, nm, left, cnt, T⟩ (i + 1))) := by unfold Hid; simp [inside, h34]
    have ca := atom_any (M := ⟨6, S, fr, nm, left, cnt, T⟩) ⟨_, _, h⟩ (i + 1) (by simp only; omega) (by omega) hT
    rw [hi1] at ca
    clear h h34 h32
    go_enter Try.func68, Try.ntmps68
    go_wp2_with fail
    refine ca.mono ?_
    rintro e w2 ⟨rfl, h2⟩
    have H2 := hidden h2
    clear ca h2
    go_wp2_with fail
    go_ret
    rw [e1.out]
    exact ⟨rfl, H2.out⟩
  have z34 : ((c : Int) == 34) = false := by simp; omega
  by_cases h92 : c = 92
  · have z92 : ((c : Int) == 92) = true := by simp; omega
    have e1 : Hid (inside ⟨6, S, fr, nm, left, cnt, T⟩ c i = (0, ⟨7, S, fr, nm, left, cnt, T⟩)) := by unfold Hid; simp [inside, h92]
    have H2 := hidden (h.state 7)
    clear h h34 h32 h92
    go_enter Try.func68, Try.ntmps68
    go_wp2_with fail
    go_ret
    rw [e1.out]
    exact ⟨rfl, _, _, H2.out⟩
  have z92 : ((c : Int) == 92) = false := by simp; omega
  have e1 : Hid (inside ⟨6, S, fr, nm, left, cnt, T⟩ c i = (0, ⟨6, S, fr, nm, left, cnt, T⟩)) := by unfold Hid; simp [inside, h32, h34, h92]
  clear h h34 h32 h92
  go_enter Try.func68, Try.ntmps68
  go_wp2_with fail
  go_ret
  rw [e1.out]
  exact ⟨rfl, _, _, H.out⟩
set_option maxHeartbeats 4000000 in
theorem inside7 {sv lv : Value} {S : List Nat} {fr : Nat} {nm : Bool} {left : List Nat} {cnt : Nat} {T : List Tk} (h : MS B K w0 w sv lv 7 S fr nm (strOf left) cnt T) (c i : Nat) (hc : c < 256) (hi : i ≤ 100000) :
    Calls Try.prog 68 #[.pointer (some ⟨K, 0, none⟩), .int .u8 (c : Nat), .int .i64 (i : Nat)] w (Does B K w0 (inside ⟨7, S, fr, nm, left, cnt, T⟩ c i)) := by
  have c0 := h.c0
  have f0 := h.free 0
  have H := hidden h
  have c5 := h.c5
  have f5 := h.free 5
  by_cases h117 : c = 117
  · have z117 : ((c : Int) == 117) = true := by simp; omega
    have e1 : Hid (inside ⟨7, S, fr, nm, left, cnt, T⟩ c i = (0, ⟨8, S, fr, nm, left, 4, T⟩)) := by unfold Hid; simp [inside, h117]
    have H2 := hidden ((h.state 8).count 4)
    clear h h117
    go_enter Try.func68, Try.ntmps68
    go_wp2_with fail
    go_ret
    rw [e1.out]
    exact ⟨rfl, _, _, H2.out⟩
  have z117 : ((c : Int) == 117) = false := by simp; omega
  have H2 := hidden (h.state 6)
  by_cases h34 : c = 34
  · have z34 : ((c : Int) == 34) = true := by simp; omega
    have e1 : Hid (inside ⟨7, S, fr, nm, left, cnt, T⟩ c i = (0, ⟨6, S, fr, nm, left, cnt, T⟩)) := by unfold Hid; subst h34; simp [inside, isE]
    clear h h117 h34 
    go_enter Try.func68, Try.ntmps68
    go_wp2_with fail
    go_ret
    rw [e1.out]
    exact ⟨rfl, _, _, H2.out⟩
  have z34 : ((c : Int) == 34) = false := by simp; omega
  by_cases h92 : c = 92
  · have z92 : ((c : Int) == 92) = true := by simp; omega
    have e1 : Hid (inside ⟨7, S, fr, nm, left, cnt, T⟩ c i = (0, ⟨6, S, fr, nm, left, cnt, T⟩)) := by unfold Hid; subst h92; simp [inside, isE]
    clear h h117 h92 h34
    go_enter Try.func68, Try.ntmps68
    go_wp2_with fail
    go_ret
    rw [e1.out]
    exact ⟨rfl, _, _, H2.out⟩
  have z92 : ((c : Int) == 92) = false := by simp; omega
  by_cases h47 : c = 47
  · have z47 : ((c : Int) == 47) = true := by simp; omega
    have e1 : Hid (inside ⟨7, S, fr, nm, left, cnt, T⟩ c i = (0, ⟨6, S, fr, nm, left, cnt, T⟩)) := by unfold Hid; subst h47; simp [inside, isE]
    clear h h117 h47 h34 h92
    go_enter Try.func68, Try.ntmps68
    go_wp2_with fail
    go_ret
    rw [e1.out]
    exact ⟨rfl, _, _, H2.out⟩
  have z47 : ((c : Int) == 47) = false := by simp; omega
  by_cases h98 : c = 98
  · have z98 : ((c : Int) == 98) = true := by simp; omega
    have e1 : Hid (inside ⟨7, S, fr, nm, left, cnt, T⟩ c i = (0, ⟨6, S, fr, nm, left, cnt, T⟩)) := by unfold Hid; subst h98; simp [inside, isE]
    clear h h117 h98 h34 h92 h47
    go_enter Try.func68, Try.ntmps68
    go_wp2_with fail
    go_ret
    rw [e1.out]
    exact ⟨rfl, _, _, H2.out⟩
  have z98 : ((c : Int) == 98) = false := by simp; omega
  by_cases h102 : c = 102
  · have z102 : ((c : Int) == 102) = true := by simp; omega
    have e1 : Hid (inside ⟨7, S, fr, nm, left, cnt, T⟩ c i = (0, ⟨6, S, fr, nm, left, cnt, T⟩)) := by unfold Hid; subst h102; simp [inside, isE]
    clear h h117 h102 h34 h92 h47 h98
    go_enter Try.func68, Try.ntmps68
    go_wp2_with fail
    go_ret
    rw [e1.out]
    exact ⟨rfl, _, _, H2.out⟩
  have z102 : ((c : Int) == 102) = false := by simp; omega
  by_cases h110 : c = 110
  · have z110 : ((c : Int) == 110) = true := by simp; omega
    have e1 : Hid (inside ⟨7, S, fr, nm, left, cnt, T⟩ c i = (0, ⟨6, S, fr, nm, left, cnt, T⟩)) := by unfold Hid; subst h110; simp [inside, isE]
    clear h h117 h110 h34 h92 h47 h98 h102
    go_enter Try.func68, Try.ntmps68
    go_wp2_with fail
    go_ret
    rw [e1.out]
    exact ⟨rfl, _, _, H2.out⟩
  have z110 : ((c : Int) == 110) = false := by simp; omega
  by_cases h114 : c = 114
  · have z114 : ((c : Int) == 114) = true := by simp; omega
    have e1 : Hid (inside ⟨7, S, fr, nm, left, cnt, T⟩ c i = (0, ⟨6, S, fr, nm, left, cnt, T⟩)) := by unfold Hid; subst h114; simp [inside, isE]
    clear h h117 h114 h34 h92 h47 h98 h102 h110
    go_enter Try.func68, Try.ntmps68
    go_wp2_with fail
    go_ret
    rw [e1.out]
    exact ⟨rfl, _, _, H2.out⟩
  have z114 : ((c : Int) == 114) = false := by simp; omega
  by_cases h116 : c = 116
  · have z116 : ((c : Int) == 116) = true := by simp; omega
    have e1 : Hid (inside ⟨7, S, fr, nm, left, cnt, T⟩ c i = (0, ⟨6, S, fr, nm, left, cnt, T⟩)) := by unfold Hid; subst h116; simp [inside, isE]
    clear h h117 h116 h34 h92 h47 h98 h102 h110 h114
    go_enter Try.func68, Try.ntmps68
    go_wp2_with fail
    go_ret
    rw [e1.out]
    exact ⟨rfl, _, _, H2.out⟩
  have z116 : ((c : Int) == 116) = false := by simp; omega
  have e1 : Hid (inside ⟨7, S, fr, nm, left, cnt, T⟩ c i = (5, ⟨6, S, fr, nm, left, cnt, T⟩)) := by unfold Hid; simp [inside, isE, h117, h34, h92, h47, h98, h102, h110, h114, h116]
  clear h h117 h34 h92 h47 h98 h102 h110 h114 h116
  go_enter Try.func68, Try.ntmps68
  go_wp2_with fail
  go_ret
  rw [e1.out]
  exact ⟨rfl, _, _, H2.out⟩
set_option maxHeartbeats 4000000 in
theorem inside8 {sv lv : Value} {S : List Nat} {fr : Nat} {nm : Bool} {left : List Nat} {cnt : Nat} {T : List Tk} (h : MS B K w0 w sv lv 8 S fr nm (strOf left) cnt T) (c i : Nat) (hc : c < 256) (hi : i ≤ 100000) (h1 : 1 ≤ cnt) (h4 : cnt ≤ 4) :
    Calls Try.prog 68 #[.pointer (some ⟨K, 0, none⟩), .int .u8 (c : Nat), .int .i64 (i : Nat)] w (Does B K w0 (inside ⟨8, S, fr, nm, left, cnt, T⟩ c i)) := by
  have c0 := h.c0
  have f0 := h.free 0
  have H := hidden h
  have cd := digit_any c w hc
  by_cases hD : isD c = true
  · have hH : isH c = true := by simp [isH, hD]
    rw [hD] at cd
    clear hD
    have c5 := h.c5
    have f5 := h.free 5
    have hc1 : ((cnt : Int) - 1) = ((cnt - 1 : Nat) : Int) := by omega
    have H2 : Hid (MS B K w0 (w.setCell ⟨K, 5, none⟩ (.int .i64 ((cnt : Int) - 1))) sv lv 8 S fr nm (strOf left) (cnt - 1) T) := by
      have := h.count (cnt - 1)
      rw [← hc1] at this
      exact this
    by_cases hz : cnt - 1 = 0
    · have zz : ((cnt : Int) - 1 == 0) = true := by simp; omega
      have e1 : Hid (inside ⟨8, S, fr, nm, left, cnt, T⟩ c i = (0, ⟨6, S, fr, nm, left, cnt - 1, T⟩)) := by unfold Hid; simp [inside, hH, hz]
      have H3 := hidden (H2.out.state 6)
      clear h hz hc1 hH
      go_enter Try.func68, Try.ntmps68
      go_wp2_with fail
      refine cd.mono ?_
      rintro e w2 ⟨rfl, rfl⟩
      go_wp2_with fail
      go_ret
      rw [e1.out]
      exact ⟨rfl, _, _, H3.out⟩
    · have zz : ((cnt : Int) - 1 == 0) = false := by simp; omega
      have e1 : Hid (inside ⟨8, S, fr, nm, left, cnt, T⟩ c i = (0, ⟨8, S, fr, nm, left, cnt - 1, T⟩)) := by unfold Hid; simp [inside, hH, hz]
      clear h hz hc1 hH
      go_enter Try.func68, Try.ntmps68
      go_wp2_with fail
      refine cd.mono ?_
      rintro e w2 ⟨rfl, rfl⟩
      go_wp2_with fail
      go_ret
      rw [e1.out]
      exact ⟨rfl, _, _, H2.out⟩
  have hD' : isD c = false := by simpa using hD
  rw [hD'] at cd
  by_cases q1 : 97 ≤ c ∧ c ≤ 102
  · have hH : isH c = true := by simp [isH, q1]
    have z1 : ¬ ((c : Int) < 97) := by omega
    have z2 : ¬ ((102 : Int) < (c : Int)) := by omega
    clear hD hD' q1
    have c5 := h.c5
    have f5 := h.free 5
    have hc1 : ((cnt : Int) - 1) = ((cnt - 1 : Nat) : Int) := by omega
    have H2 : Hid (MS B K w0 (w.setCell ⟨K, 5, none⟩ (.int .i64 ((cnt : Int) - 1))) sv lv 8 S fr nm (strOf left) (cnt - 1) T) := by
      have := h.count (cnt - 1)
      rw [← hc1] at this
      exact this
    by_cases hz : cnt - 1 = 0
    · have zz : ((cnt : Int) - 1 == 0) = true := by simp; omega
      have e1 : Hid (inside ⟨8, S, fr, nm, left, cnt, T⟩ c i = (0, ⟨6, S, fr, nm, left, cnt - 1, T⟩)) := by unfold Hid; simp [inside, hH, hz]
      have H3 := hidden (H2.out.state 6)
      clear h hz hc1 hH
      go_enter Try.func68, Try.ntmps68
      go_wp2_with fail
      refine cd.mono ?_
      rintro e w2 ⟨rfl, rfl⟩
      go_wp2_with fail
      go_ret
      rw [e1.out]
      exact ⟨rfl, _, _, H3.out⟩
    · have zz : ((cnt : Int) - 1 == 0) = false := by simp; omega
      have e1 : Hid (inside ⟨8, S, fr, nm, left, cnt, T⟩ c i = (0, ⟨8, S, fr, nm, left, cnt - 1, T⟩)) := by unfold Hid; simp [inside, hH, hz]
      clear h hz hc1 hH
      go_enter Try.func68, Try.ntmps68
      go_wp2_with fail
      refine cd.mono ?_
      rintro e w2 ⟨rfl, rfl⟩
      go_wp2_with fail
      go_ret
      rw [e1.out]
      exact ⟨rfl, _, _, H2.out⟩
  by_cases q2 : 65 ≤ c ∧ c ≤ 70
  · have hH : isH c = true := by simp [isH, q2]
    have z1 : (c : Int) < 97 := by omega
    have z3 : ¬ ((c : Int) < 65) := by omega
    have z4 : ¬ ((70 : Int) < (c : Int)) := by omega
    clear hD hD' q1 q2
    have c5 := h.c5
    have f5 := h.free 5
    have hc1 : ((cnt : Int) - 1) = ((cnt - 1 : Nat) : Int) := by omega
    have H2 : Hid (MS B K w0 (w.setCell ⟨K, 5, none⟩ (.int .i64 ((cnt : Int) - 1))) sv lv 8 S fr nm (strOf left) (cnt - 1) T) := by
      have := h.count (cnt - 1)
      rw [← hc1] at this
      exact this
    by_cases hz : cnt - 1 = 0
    · have zz : ((cnt : Int) - 1 == 0) = true := by simp; omega
      have e1 : Hid (inside ⟨8, S, fr, nm, left, cnt, T⟩ c i = (0, ⟨6, S, fr, nm, left, cnt - 1, T⟩)) := by unfold Hid; simp [inside, hH, hz]
      have H3 := hidden (H2.out.state 6)
      clear h hz hc1 hH
      go_enter Try.func68, Try.ntmps68
      go_wp2_with fail
      refine cd.mono ?_
      rintro e w2 ⟨rfl, rfl⟩
      go_wp2_with fail
      go_ret
      rw [e1.out]
      exact ⟨rfl, _, _, H3.out⟩
    · have zz : ((cnt : Int) - 1 == 0) = false := by simp; omega
      have e1 : Hid (inside ⟨8, S, fr, nm, left, cnt, T⟩ c i = (0, ⟨8, S, fr, nm, left, cnt - 1, T⟩)) := by unfold Hid; simp [inside, hH, hz]
      clear h hz hc1 hH
      go_enter Try.func68, Try.ntmps68
      go_wp2_with fail
      refine cd.mono ?_
      rintro e w2 ⟨rfl, rfl⟩
      go_wp2_with fail
      go_ret
      rw [e1.out]
      exact ⟨rfl, _, _, H2.out⟩
  have e1 : Hid (inside ⟨8, S, fr, nm, left, cnt, T⟩ c i = (5, ⟨8, S, fr, nm, left, cnt, T⟩)) := by
    have hH : isH c = false := by
      simp only [isH, hD', Bool.false_or, Bool.or_eq_false_iff, Bool.and_eq_false_iff, decide_eq_false_iff_not]
      exact ⟨by omega, by omega⟩
    unfold Hid; simp [inside, hH]
  clear h hD hD'
  by_cases p1 : c < 97
  · have z1 : (c : Int) < 97 := by omega
    by_cases p3 : c < 65
    · have z3 : (c : Int) < 65 := by omega
      clear p1 p3 q1 q2
      go_enter Try.func68, Try.ntmps68
      go_wp2_with fail
      refine cd.mono ?_
      rintro e w2 ⟨rfl, rfl⟩
      go_wp2_with fail
      go_ret
      rw [e1.out]
      exact ⟨rfl, _, _, H.out⟩
    · have z3 : ¬ ((c : Int) < 65) := by omega
      have z4 : (70 : Int) < (c : Int) := by omega
      clear p1 p3 q1 q2
      go_enter Try.func68, Try.ntmps68
      go_wp2_with fail
      refine cd.mono ?_
      rintro e w2 ⟨rfl, rfl⟩
      go_wp2_with fail
      go_ret
      rw [e1.out]
      exact ⟨rfl, _, _, H.out⟩
  · have z1 : ¬ ((c : Int) < 97) := by omega
    have z2 : (102 : Int) < (c : Int) := by omega
    have z3 : ¬ ((c : Int) < 65) := by omega
    have z4 : (70 : Int) < (c : Int) := by omega
    clear p1 q1 q2
    go_enter Try.func68, Try.ntmps68
    go_wp2_with fail
    refine cd.mono ?_
    rintro e w2 ⟨rfl, rfl⟩
    go_wp2_with fail
    go_ret
    rw [e1.out]
    exact ⟨rfl, _, _, H.out⟩
end
end Go.Proofs.PlatenJson

/- What inside of the document's machine comes to in a word; what feed comes to. -/
namespace Go.Proofs.PlatenJson
open Go Go.RowKit
set_option linter.unusedVariables false
set_option maxRecDepth 100000
section
variable {B K : Nat} {w0 w : World}
theorem strOf_size (l : List Nat) : (strOf l).size = l.length := by simp [strOf, ByteArray.size]
theorem strOf_head (b : Nat) (r : List Nat) (hb : b < 256) (h : 0 < (strOf (b :: r)).size) : ((strOf (b :: r))[0]'h).toNat = b := by
  show (UInt8.ofNat b).toNat = b
  simp
  exact hb
theorem strOf_tail (b : Nat) (r : List Nat) : (strOf (b :: r)).extract 1 (strOf (b :: r)).size = strOf r := by
  apply ByteArray.ext
  rw [ByteArray.data_extract, strOf_size]
  simp [strOf]
  exact List.take_of_length_le (by simp)
theorem str_facts (s : ByteArray) (b : Nat) (r : List Nat) (hs : s = strOf (b :: r)) (hb : b < 256) : ∃ hp : 0 < s.size, (s[0]'hp).toNat = b ∧ s.extract 1 s.size = strOf r := by
  subst hs
  have hp : 0 < (strOf (b :: r)).size := by rw [strOf_size]; simp
  exact ⟨hp, strOf_head b r hb hp, strOf_tail b r⟩
set_option maxHeartbeats 4000000 in
theorem inside17' (s : ByteArray) {sv lv : Value} {S : List Nat} {fr : Nat} {nm : Bool} {b : Nat} {r : List Nat} {cnt : Nat} {T : List Tk} (Hsl : Hid (s = strOf (b :: r))) (h : MS B K w0 w sv lv 17 S fr nm s cnt T) (c i : Nat) (hc : c < 256) (hi : i ≤ 100000) (hf : fr ≤ i) (hT : T.length ≤ 1000000) (hb : b < 256) :
    Calls Try.prog 68 #[.pointer (some ⟨K, 0, none⟩), .int .u8 (c : Nat), .int .i64 (i : Nat)] w (Does B K w0 (inside ⟨17, S, fr, nm, b :: r, cnt, T⟩ c i)) := by
  have hi1 : ((i + 1 : Nat) : Int) = (i : Int) + 1 := by omega
  have c0 := h.c0
  have c4 := h.c4
  have f4 := h.free 4
  obtain ⟨hp, hg, ht⟩ := str_facts s b r Hsl.out hb
  have Hg := hidden hg
  have Ht := hidden ht
  have He : Hid ((strOf r).toList.isEmpty = decide (r = [])) := by
    unfold Hid
    rw [ByteArray.toList_eq]
    cases r <;> simp [strOf]
  have Hw := hidden (h.word (s.extract 1 s.size))
  have H := hidden h
  clear h hg ht
  by_cases hcb : c = b
  · have zc : ((c : Int) != ((s[0]'hp).toNat : Int)) = false := by rw [Hg.out]; simp [hcb]
    by_cases hr : r = []
    · have ze : (s.extract 1 s.size).toList.isEmpty = true := by rw [Ht.out, He.out]; simp [hr]
      have e1 : Hid (inside ⟨17, S, fr, nm, b :: r, cnt, T⟩ c i = (0, atom ⟨17, S, fr, nm, r, cnt, T⟩ (i + 1))) := by unfold Hid; simp [inside, hcb, hr]
      rw [Ht.out] at Hw
      have ca := atom_any (M := ⟨17, S, fr, nm, r, cnt, T⟩) ⟨_, _, Hw.out⟩ (i + 1) (by simp only; omega) (by omega) hT
      rw [hi1, ← Ht.out] at ca
      clear hcb hr
      go_enter Try.func68, Try.ntmps68
      go_wp2_with fail
      refine ca.mono ?_
      rintro e w2 ⟨rfl, h2⟩
      have H2 := hidden h2
      clear ca h2
      go_wp2_with fail
      go_ret
      rw [e1.out]
      exact ⟨rfl, H2.out⟩
    · have ze : (s.extract 1 s.size).toList.isEmpty = false := by rw [Ht.out, He.out]; simp [hr]
      have e1 : Hid (inside ⟨17, S, fr, nm, b :: r, cnt, T⟩ c i = (0, ⟨17, S, fr, nm, r, cnt, T⟩)) := by unfold Hid; simp [inside, hcb, hr]
      clear hcb hr
      go_enter Try.func68, Try.ntmps68
      go_wp2_with fail
      go_ret
      rw [e1.out]
      refine ⟨rfl, sv, lv, ?_⟩
      have := Hw.out
      rw [Ht.out] at this ⊢
      exact this
  · have zc : ((c : Int) != ((s[0]'hp).toNat : Int)) = true := by rw [Hg.out, bne_iff_ne]; omega
    have e1 : Hid (inside ⟨17, S, fr, nm, b :: r, cnt, T⟩ c i = (5, ⟨17, S, fr, nm, b :: r, cnt, T⟩)) := by unfold Hid; simp [inside, hcb]
    clear hcb
    go_enter Try.func68, Try.ntmps68
    go_wp2_with fail
    go_ret
    rw [e1.out]
    refine ⟨rfl, sv, lv, ?_⟩
    have := H.out
    rw [Hsl.out] at this
    exact this
theorem inside17 {sv lv : Value} {S : List Nat} {fr : Nat} {nm : Bool} {b : Nat} {r : List Nat} {cnt : Nat} {T : List Tk} (h : MS B K w0 w sv lv 17 S fr nm (strOf (b :: r)) cnt T) (c i : Nat) (hc : c < 256) (hi : i ≤ 100000) (hf : fr ≤ i) (hT : T.length ≤ 1000000) (hb : b < 256) :
    Calls Try.prog 68 #[.pointer (some ⟨K, 0, none⟩), .int .u8 (c : Nat), .int .i64 (i : Nat)] w (Does B K w0 (inside ⟨17, S, fr, nm, b :: r, cnt, T⟩ c i)) :=
  inside17' _ rfl h c i hc hi hf hT hb
end
end Go.Proofs.PlatenJson

/- What feed of the document's machine comes to. -/
namespace Go.Proofs.PlatenJson
open Go Go.RowKit
set_option linter.unusedVariables false
set_option maxRecDepth 100000

/-- What holds of the machine ahead of byte i. -/
structure Iv (M : Mc) (i : Nat) : Prop where
  s : M.st ≤ 17
  S : M.stack.length ≤ 512
  fr : M.fr ≤ i
  l : M.l.length ≤ 2 * i
  h : M.st = 8 → 1 ≤ M.cnt ∧ M.cnt ≤ 4
  w : M.st = 17 → ∃ b r, M.left = b :: r ∧ ∀ x ∈ M.left, x < 256
section
variable {B K : Nat} {w0 w : World}
set_option maxHeartbeats 8000000 in
theorem feed0 {sv lv : Value} {S : List Nat} {fr : Nat} {nm : Bool} {left : List Nat} {cnt : Nat} {T : List Tk} (h : MS B K w0 w sv lv 0 S fr nm (strOf left) cnt T) (c i : Nat) (hc : c < 256) (hi : i < 100000) (hv : Iv ⟨0, S, fr, nm, left, cnt, T⟩ i) :
    Calls Try.prog 42 #[.pointer (some ⟨K, 0, none⟩), .int .u8 (c : Nat), .int .i64 (i : Nat)] w (Does B K w0 (feed ⟨0, S, fr, nm, left, cnt, T⟩ c i)) := by
  have c0 := h.c0
  have f0 := h.free 0
  have hm : MM B K w0 w ⟨0, S, fr, nm, left, cnt, T⟩ := ⟨_, _, h⟩
  have hvS := hv.S
  have hvl := hv.l
  have hvf := hv.fr
  simp only at hvS hvl hvf
  have ce : Calls Try.prog 43 #[.int .u8 0] w fun e w' => e = .returned (.bool false) ∧ w' = w := ends_any 0 w
  have cn : Calls Try.prog 67 #[.int .u8 0, .int .u8 (c : Nat)] w fun e w' => e = .returned (.tuple #[.int .u8 0, .bool false]) ∧ w' = w := by
    have := number_ref 0 c w (by decide) hc
    have e0 : numb 0 c = (0, false) := rfl
    rw [e0] at this
    exact this
  have HM := hidden hm
  have HMs := hidden h
  clear h hm hv
  by_cases b32 : c = 32
  · have z32 : ((c : Int) == 32) = true := by simp; omega
    have e1 : Hid (feed ⟨0, S, fr, nm, left, cnt, T⟩ c i = (0, ⟨0, S, fr, nm, left, cnt, T⟩)) := by unfold Hid; subst b32; simp [feed, numb, ends, feedA, isB]
    clear b32  
    go_enter Try.func42, Try.ntmps42
    go_wp2_with fail
    refine cn.mono ?_
    rintro e w1 ⟨rfl, rfl⟩
    go_wp2_with fail
    refine ce.mono ?_
    rintro e w1 ⟨rfl, rfl⟩
    go_wp2_with fail
    go_ret
    rw [e1.out]
    exact ⟨rfl, HM.out⟩
  have z32 : ((c : Int) == 32) = false := by simp; omega
  by_cases b9 : c = 9
  · have z9 : ((c : Int) == 9) = true := by simp; omega
    have e1 : Hid (feed ⟨0, S, fr, nm, left, cnt, T⟩ c i = (0, ⟨0, S, fr, nm, left, cnt, T⟩)) := by unfold Hid; subst b9; simp [feed, numb, ends, feedA, isB]
    clear b9  b32
    go_enter Try.func42, Try.ntmps42
    go_wp2_with fail
    refine cn.mono ?_
    rintro e w1 ⟨rfl, rfl⟩
    go_wp2_with fail
    refine ce.mono ?_
    rintro e w1 ⟨rfl, rfl⟩
    go_wp2_with fail
    go_ret
    rw [e1.out]
    exact ⟨rfl, HM.out⟩
  have z9 : ((c : Int) == 9) = false := by simp; omega
  by_cases b10 : c = 10
  · have z10 : ((c : Int) == 10) = true := by simp; omega
    have e1 : Hid (feed ⟨0, S, fr, nm, left, cnt, T⟩ c i = (0, ⟨0, S, fr, nm, left, cnt, T⟩)) := by unfold Hid; subst b10; simp [feed, numb, ends, feedA, isB]
    clear b10  b32 b9
    go_enter Try.func42, Try.ntmps42
    go_wp2_with fail
    refine cn.mono ?_
    rintro e w1 ⟨rfl, rfl⟩
    go_wp2_with fail
    refine ce.mono ?_
    rintro e w1 ⟨rfl, rfl⟩
    go_wp2_with fail
    go_ret
    rw [e1.out]
    exact ⟨rfl, HM.out⟩
  have z10 : ((c : Int) == 10) = false := by simp; omega
  by_cases b13 : c = 13
  · have z13 : ((c : Int) == 13) = true := by simp; omega
    have e1 : Hid (feed ⟨0, S, fr, nm, left, cnt, T⟩ c i = (0, ⟨0, S, fr, nm, left, cnt, T⟩)) := by unfold Hid; subst b13; simp [feed, numb, ends, feedA, isB]
    clear b13  b32 b9 b10
    go_enter Try.func42, Try.ntmps42
    go_wp2_with fail
    refine cn.mono ?_
    rintro e w1 ⟨rfl, rfl⟩
    go_wp2_with fail
    refine ce.mono ?_
    rintro e w1 ⟨rfl, rfl⟩
    go_wp2_with fail
    go_ret
    rw [e1.out]
    exact ⟨rfl, HM.out⟩
  have z13 : ((c : Int) == 13) = false := by simp; omega
  have hB : isB c = false := by simp [isB, b32, b9, b10, b13]
  clear b32 b9 b10 b13
  have e1 : Hid (feed ⟨0, S, fr, nm, left, cnt, T⟩ c i = begin' ⟨0, S, fr, nm, left, cnt, T⟩ c i) := by unfold Hid; simp [feed, numb, ends, feedA, hB]
  have cl := begin_any HM.out c i hc (by simp only; omega) (by simp only; omega)
  generalize begin' ⟨0, S, fr, nm, left, cnt, T⟩ c i = p at *
  clear hB
  go_enter Try.func42, Try.ntmps42
  go_wp2_with fail
  refine cn.mono ?_
  rintro e w1 ⟨rfl, rfl⟩
  go_wp2_with fail
  refine ce.mono ?_
  rintro e w1 ⟨rfl, rfl⟩
  go_wp2_with fail
  refine cl.mono ?_
  rintro e w4 ⟨rfl, h4⟩
  have H4 := hidden h4
  clear cl h4
  go_wp2_with fail
  go_ret
  rw [e1.out]
  exact ⟨rfl, H4.out⟩

set_option maxHeartbeats 8000000 in
theorem feed1 {sv lv : Value} {S : List Nat} {fr : Nat} {nm : Bool} {left : List Nat} {cnt : Nat} {T : List Tk} (h : MS B K w0 w sv lv 1 S fr nm (strOf left) cnt T) (c i : Nat) (hc : c < 256) (hi : i < 100000) (hv : Iv ⟨1, S, fr, nm, left, cnt, T⟩ i) :
    Calls Try.prog 42 #[.pointer (some ⟨K, 0, none⟩), .int .u8 (c : Nat), .int .i64 (i : Nat)] w (Does B K w0 (feed ⟨1, S, fr, nm, left, cnt, T⟩ c i)) := by
  have c0 := h.c0
  have f0 := h.free 0
  have hm : MM B K w0 w ⟨1, S, fr, nm, left, cnt, T⟩ := ⟨_, _, h⟩
  have hvS := hv.S
  have hvl := hv.l
  have hvf := hv.fr
  simp only at hvS hvl hvf
  have ce : Calls Try.prog 43 #[.int .u8 1] w fun e w' => e = .returned (.bool false) ∧ w' = w := ends_any 1 w
  have cn : Calls Try.prog 67 #[.int .u8 1, .int .u8 (c : Nat)] w fun e w' => e = .returned (.tuple #[.int .u8 0, .bool false]) ∧ w' = w := by
    have := number_ref 1 c w (by decide) hc
    have e0 : numb 1 c = (0, false) := rfl
    rw [e0] at this
    exact this
  have HM := hidden hm
  have HMs := hidden h
  clear h hm hv
  by_cases b32 : c = 32
  · have z32 : ((c : Int) == 32) = true := by simp; omega
    have e1 : Hid (feed ⟨1, S, fr, nm, left, cnt, T⟩ c i = (0, ⟨1, S, fr, nm, left, cnt, T⟩)) := by unfold Hid; subst b32; simp [feed, numb, ends, feedA, isB]
    clear b32  
    go_enter Try.func42, Try.ntmps42
    go_wp2_with fail
    refine cn.mono ?_
    rintro e w1 ⟨rfl, rfl⟩
    go_wp2_with fail
    refine ce.mono ?_
    rintro e w1 ⟨rfl, rfl⟩
    go_wp2_with fail
    go_ret
    rw [e1.out]
    exact ⟨rfl, HM.out⟩
  have z32 : ((c : Int) == 32) = false := by simp; omega
  by_cases b9 : c = 9
  · have z9 : ((c : Int) == 9) = true := by simp; omega
    have e1 : Hid (feed ⟨1, S, fr, nm, left, cnt, T⟩ c i = (0, ⟨1, S, fr, nm, left, cnt, T⟩)) := by unfold Hid; subst b9; simp [feed, numb, ends, feedA, isB]
    clear b9  b32
    go_enter Try.func42, Try.ntmps42
    go_wp2_with fail
    refine cn.mono ?_
    rintro e w1 ⟨rfl, rfl⟩
    go_wp2_with fail
    refine ce.mono ?_
    rintro e w1 ⟨rfl, rfl⟩
    go_wp2_with fail
    go_ret
    rw [e1.out]
    exact ⟨rfl, HM.out⟩
  have z9 : ((c : Int) == 9) = false := by simp; omega
  by_cases b10 : c = 10
  · have z10 : ((c : Int) == 10) = true := by simp; omega
    have e1 : Hid (feed ⟨1, S, fr, nm, left, cnt, T⟩ c i = (0, ⟨1, S, fr, nm, left, cnt, T⟩)) := by unfold Hid; subst b10; simp [feed, numb, ends, feedA, isB]
    clear b10  b32 b9
    go_enter Try.func42, Try.ntmps42
    go_wp2_with fail
    refine cn.mono ?_
    rintro e w1 ⟨rfl, rfl⟩
    go_wp2_with fail
    refine ce.mono ?_
    rintro e w1 ⟨rfl, rfl⟩
    go_wp2_with fail
    go_ret
    rw [e1.out]
    exact ⟨rfl, HM.out⟩
  have z10 : ((c : Int) == 10) = false := by simp; omega
  by_cases b13 : c = 13
  · have z13 : ((c : Int) == 13) = true := by simp; omega
    have e1 : Hid (feed ⟨1, S, fr, nm, left, cnt, T⟩ c i = (0, ⟨1, S, fr, nm, left, cnt, T⟩)) := by unfold Hid; subst b13; simp [feed, numb, ends, feedA, isB]
    clear b13  b32 b9 b10
    go_enter Try.func42, Try.ntmps42
    go_wp2_with fail
    refine cn.mono ?_
    rintro e w1 ⟨rfl, rfl⟩
    go_wp2_with fail
    refine ce.mono ?_
    rintro e w1 ⟨rfl, rfl⟩
    go_wp2_with fail
    go_ret
    rw [e1.out]
    exact ⟨rfl, HM.out⟩
  have z13 : ((c : Int) == 13) = false := by simp; omega
  have hB : isB c = false := by simp [isB, b32, b9, b10, b13]
  clear b32 b9 b10 b13
  by_cases h93 : c = 93
  · have z93 : ((c : Int) == 93) = true := by simp; omega
    have e1 : Hid (feed ⟨1, S, fr, nm, left, cnt, T⟩ c i = next ⟨1, S, fr, nm, left, cnt, T⟩ c i) := by unfold Hid; simp [feed, numb, ends, feedA, h93, isB]
    have cl := next_any HM.out c i (by simp only; omega) (by simp only; omega)
    generalize next ⟨1, S, fr, nm, left, cnt, T⟩ c i = p at *
    clear hB h93
    go_enter Try.func42, Try.ntmps42
    go_wp2_with fail
    refine cn.mono ?_
    rintro e w1 ⟨rfl, rfl⟩
    go_wp2_with fail
    refine ce.mono ?_
    rintro e w1 ⟨rfl, rfl⟩
    go_wp2_with fail
    refine cl.mono ?_
    rintro e w4 ⟨rfl, h4⟩
    have H4 := hidden h4
    clear cl h4
    go_wp2_with fail
    go_ret
    rw [e1.out]
    exact ⟨rfl, H4.out⟩
  have z93 : ((c : Int) == 93) = false := by simp; omega
  have e1 : Hid (feed ⟨1, S, fr, nm, left, cnt, T⟩ c i = begin' ⟨1, S, fr, nm, left, cnt, T⟩ c i) := by unfold Hid; simp [feed, numb, ends, feedA, hB, h93]
  have cl := begin_any HM.out c i hc (by simp only; omega) (by simp only; omega)
  generalize begin' ⟨1, S, fr, nm, left, cnt, T⟩ c i = p at *
  clear hB h93
  go_enter Try.func42, Try.ntmps42
  go_wp2_with fail
  refine cn.mono ?_
  rintro e w1 ⟨rfl, rfl⟩
  go_wp2_with fail
  refine ce.mono ?_
  rintro e w1 ⟨rfl, rfl⟩
  go_wp2_with fail
  refine cl.mono ?_
  rintro e w4 ⟨rfl, h4⟩
  have H4 := hidden h4
  clear cl h4
  go_wp2_with fail
  go_ret
  rw [e1.out]
  exact ⟨rfl, H4.out⟩

set_option maxHeartbeats 8000000 in
theorem feed2 {sv lv : Value} {S : List Nat} {fr : Nat} {nm : Bool} {left : List Nat} {cnt : Nat} {T : List Tk} (h : MS B K w0 w sv lv 2 S fr nm (strOf left) cnt T) (c i : Nat) (hc : c < 256) (hi : i < 100000) (hv : Iv ⟨2, S, fr, nm, left, cnt, T⟩ i) :
    Calls Try.prog 42 #[.pointer (some ⟨K, 0, none⟩), .int .u8 (c : Nat), .int .i64 (i : Nat)] w (Does B K w0 (feed ⟨2, S, fr, nm, left, cnt, T⟩ c i)) := by
  have c0 := h.c0
  have f0 := h.free 0
  have hm : MM B K w0 w ⟨2, S, fr, nm, left, cnt, T⟩ := ⟨_, _, h⟩
  have hvS := hv.S
  have hvl := hv.l
  have hvf := hv.fr
  simp only at hvS hvl hvf
  have ce : Calls Try.prog 43 #[.int .u8 2] w fun e w' => e = .returned (.bool false) ∧ w' = w := ends_any 2 w
  have cn : Calls Try.prog 67 #[.int .u8 2, .int .u8 (c : Nat)] w fun e w' => e = .returned (.tuple #[.int .u8 0, .bool false]) ∧ w' = w := by
    have := number_ref 2 c w (by decide) hc
    have e0 : numb 2 c = (0, false) := rfl
    rw [e0] at this
    exact this
  have HM := hidden hm
  have HMs := hidden h
  clear h hm hv
  by_cases b32 : c = 32
  · have z32 : ((c : Int) == 32) = true := by simp; omega
    have e1 : Hid (feed ⟨2, S, fr, nm, left, cnt, T⟩ c i = (0, ⟨2, S, fr, nm, left, cnt, T⟩)) := by unfold Hid; subst b32; simp [feed, numb, ends, feedA, isB]
    clear b32  
    go_enter Try.func42, Try.ntmps42
    go_wp2_with fail
    refine cn.mono ?_
    rintro e w1 ⟨rfl, rfl⟩
    go_wp2_with fail
    refine ce.mono ?_
    rintro e w1 ⟨rfl, rfl⟩
    go_wp2_with fail
    go_ret
    rw [e1.out]
    exact ⟨rfl, HM.out⟩
  have z32 : ((c : Int) == 32) = false := by simp; omega
  by_cases b9 : c = 9
  · have z9 : ((c : Int) == 9) = true := by simp; omega
    have e1 : Hid (feed ⟨2, S, fr, nm, left, cnt, T⟩ c i = (0, ⟨2, S, fr, nm, left, cnt, T⟩)) := by unfold Hid; subst b9; simp [feed, numb, ends, feedA, isB]
    clear b9  b32
    go_enter Try.func42, Try.ntmps42
    go_wp2_with fail
    refine cn.mono ?_
    rintro e w1 ⟨rfl, rfl⟩
    go_wp2_with fail
    refine ce.mono ?_
    rintro e w1 ⟨rfl, rfl⟩
    go_wp2_with fail
    go_ret
    rw [e1.out]
    exact ⟨rfl, HM.out⟩
  have z9 : ((c : Int) == 9) = false := by simp; omega
  by_cases b10 : c = 10
  · have z10 : ((c : Int) == 10) = true := by simp; omega
    have e1 : Hid (feed ⟨2, S, fr, nm, left, cnt, T⟩ c i = (0, ⟨2, S, fr, nm, left, cnt, T⟩)) := by unfold Hid; subst b10; simp [feed, numb, ends, feedA, isB]
    clear b10  b32 b9
    go_enter Try.func42, Try.ntmps42
    go_wp2_with fail
    refine cn.mono ?_
    rintro e w1 ⟨rfl, rfl⟩
    go_wp2_with fail
    refine ce.mono ?_
    rintro e w1 ⟨rfl, rfl⟩
    go_wp2_with fail
    go_ret
    rw [e1.out]
    exact ⟨rfl, HM.out⟩
  have z10 : ((c : Int) == 10) = false := by simp; omega
  by_cases b13 : c = 13
  · have z13 : ((c : Int) == 13) = true := by simp; omega
    have e1 : Hid (feed ⟨2, S, fr, nm, left, cnt, T⟩ c i = (0, ⟨2, S, fr, nm, left, cnt, T⟩)) := by unfold Hid; subst b13; simp [feed, numb, ends, feedA, isB]
    clear b13  b32 b9 b10
    go_enter Try.func42, Try.ntmps42
    go_wp2_with fail
    refine cn.mono ?_
    rintro e w1 ⟨rfl, rfl⟩
    go_wp2_with fail
    refine ce.mono ?_
    rintro e w1 ⟨rfl, rfl⟩
    go_wp2_with fail
    go_ret
    rw [e1.out]
    exact ⟨rfl, HM.out⟩
  have z13 : ((c : Int) == 13) = false := by simp; omega
  have hB : isB c = false := by simp [isB, b32, b9, b10, b13]
  clear b32 b9 b10 b13
  by_cases h125 : c = 125
  · have z125 : ((c : Int) == 125) = true := by simp; omega
    have e1 : Hid (feed ⟨2, S, fr, nm, left, cnt, T⟩ c i = next ⟨2, S, fr, nm, left, cnt, T⟩ c i) := by unfold Hid; simp [feed, numb, ends, feedA, h125, isB]
    have cl := next_any HM.out c i (by simp only; omega) (by simp only; omega)
    generalize next ⟨2, S, fr, nm, left, cnt, T⟩ c i = p at *
    clear hB h125
    go_enter Try.func42, Try.ntmps42
    go_wp2_with fail
    refine cn.mono ?_
    rintro e w1 ⟨rfl, rfl⟩
    go_wp2_with fail
    refine ce.mono ?_
    rintro e w1 ⟨rfl, rfl⟩
    go_wp2_with fail
    refine cl.mono ?_
    rintro e w4 ⟨rfl, h4⟩
    have H4 := hidden h4
    clear cl h4
    go_wp2_with fail
    go_ret
    rw [e1.out]
    exact ⟨rfl, H4.out⟩
  have z125 : ((c : Int) == 125) = false := by simp; omega
  by_cases h34 : c = 34
  · have z34 : ((c : Int) != 34) = false := by simp; omega
    have e1 : Hid (feed ⟨2, S, fr, nm, left, cnt, T⟩ c i = (0, ⟨6, S, i, true, left, cnt, T⟩)) := by unfold Hid; simp [feed, numb, ends, feedA, h34, isB]
    have H6 := hidden (((HMs.out.from' i).state 6).name true)
    have c2 := HMs.out.c2
    have f2 := HMs.out.free 2
    have c3 := HMs.out.c3
    have f3 := HMs.out.free 3
    clear hB h34 h125
    go_enter Try.func42, Try.ntmps42
    go_wp2_with fail
    refine cn.mono ?_
    rintro e w1 ⟨rfl, rfl⟩
    go_wp2_with fail
    refine ce.mono ?_
    rintro e w1 ⟨rfl, rfl⟩
    go_wp2_with fail
    go_ret
    rw [e1.out]
    exact ⟨rfl, _, _, H6.out⟩
  have z34 : ((c : Int) != 34) = true := by rw [bne_iff_ne]; omega
  have e1 : Hid (feed ⟨2, S, fr, nm, left, cnt, T⟩ c i = (5, ⟨2, S, fr, nm, left, cnt, T⟩)) := by unfold Hid; simp [feed, numb, ends, feedA, hB, h34, h125]
  clear hB h34 h125
  go_enter Try.func42, Try.ntmps42
  go_wp2_with fail
  refine cn.mono ?_
  rintro e w1 ⟨rfl, rfl⟩
  go_wp2_with fail
  refine ce.mono ?_
  rintro e w1 ⟨rfl, rfl⟩
  go_wp2_with fail
  go_ret
  rw [e1.out]
  exact ⟨rfl, HM.out⟩

set_option maxHeartbeats 8000000 in
theorem feed3 {sv lv : Value} {S : List Nat} {fr : Nat} {nm : Bool} {left : List Nat} {cnt : Nat} {T : List Tk} (h : MS B K w0 w sv lv 3 S fr nm (strOf left) cnt T) (c i : Nat) (hc : c < 256) (hi : i < 100000) (hv : Iv ⟨3, S, fr, nm, left, cnt, T⟩ i) :
    Calls Try.prog 42 #[.pointer (some ⟨K, 0, none⟩), .int .u8 (c : Nat), .int .i64 (i : Nat)] w (Does B K w0 (feed ⟨3, S, fr, nm, left, cnt, T⟩ c i)) := by
  have c0 := h.c0
  have f0 := h.free 0
  have hm : MM B K w0 w ⟨3, S, fr, nm, left, cnt, T⟩ := ⟨_, _, h⟩
  have hvS := hv.S
  have hvl := hv.l
  have hvf := hv.fr
  simp only at hvS hvl hvf
  have ce : Calls Try.prog 43 #[.int .u8 3] w fun e w' => e = .returned (.bool false) ∧ w' = w := ends_any 3 w
  have cn : Calls Try.prog 67 #[.int .u8 3, .int .u8 (c : Nat)] w fun e w' => e = .returned (.tuple #[.int .u8 0, .bool false]) ∧ w' = w := by
    have := number_ref 3 c w (by decide) hc
    have e0 : numb 3 c = (0, false) := rfl
    rw [e0] at this
    exact this
  have HM := hidden hm
  have HMs := hidden h
  clear h hm hv
  by_cases b32 : c = 32
  · have z32 : ((c : Int) == 32) = true := by simp; omega
    have e1 : Hid (feed ⟨3, S, fr, nm, left, cnt, T⟩ c i = (0, ⟨3, S, fr, nm, left, cnt, T⟩)) := by unfold Hid; subst b32; simp [feed, numb, ends, feedA, isB]
    clear b32  
    go_enter Try.func42, Try.ntmps42
    go_wp2_with fail
    refine cn.mono ?_
    rintro e w1 ⟨rfl, rfl⟩
    go_wp2_with fail
    refine ce.mono ?_
    rintro e w1 ⟨rfl, rfl⟩
    go_wp2_with fail
    go_ret
    rw [e1.out]
    exact ⟨rfl, HM.out⟩
  have z32 : ((c : Int) == 32) = false := by simp; omega
  by_cases b9 : c = 9
  · have z9 : ((c : Int) == 9) = true := by simp; omega
    have e1 : Hid (feed ⟨3, S, fr, nm, left, cnt, T⟩ c i = (0, ⟨3, S, fr, nm, left, cnt, T⟩)) := by unfold Hid; subst b9; simp [feed, numb, ends, feedA, isB]
    clear b9  b32
    go_enter Try.func42, Try.ntmps42
    go_wp2_with fail
    refine cn.mono ?_
    rintro e w1 ⟨rfl, rfl⟩
    go_wp2_with fail
    refine ce.mono ?_
    rintro e w1 ⟨rfl, rfl⟩
    go_wp2_with fail
    go_ret
    rw [e1.out]
    exact ⟨rfl, HM.out⟩
  have z9 : ((c : Int) == 9) = false := by simp; omega
  by_cases b10 : c = 10
  · have z10 : ((c : Int) == 10) = true := by simp; omega
    have e1 : Hid (feed ⟨3, S, fr, nm, left, cnt, T⟩ c i = (0, ⟨3, S, fr, nm, left, cnt, T⟩)) := by unfold Hid; subst b10; simp [feed, numb, ends, feedA, isB]
    clear b10  b32 b9
    go_enter Try.func42, Try.ntmps42
    go_wp2_with fail
    refine cn.mono ?_
    rintro e w1 ⟨rfl, rfl⟩
    go_wp2_with fail
    refine ce.mono ?_
    rintro e w1 ⟨rfl, rfl⟩
    go_wp2_with fail
    go_ret
    rw [e1.out]
    exact ⟨rfl, HM.out⟩
  have z10 : ((c : Int) == 10) = false := by simp; omega
  by_cases b13 : c = 13
  · have z13 : ((c : Int) == 13) = true := by simp; omega
    have e1 : Hid (feed ⟨3, S, fr, nm, left, cnt, T⟩ c i = (0, ⟨3, S, fr, nm, left, cnt, T⟩)) := by unfold Hid; subst b13; simp [feed, numb, ends, feedA, isB]
    clear b13  b32 b9 b10
    go_enter Try.func42, Try.ntmps42
    go_wp2_with fail
    refine cn.mono ?_
    rintro e w1 ⟨rfl, rfl⟩
    go_wp2_with fail
    refine ce.mono ?_
    rintro e w1 ⟨rfl, rfl⟩
    go_wp2_with fail
    go_ret
    rw [e1.out]
    exact ⟨rfl, HM.out⟩
  have z13 : ((c : Int) == 13) = false := by simp; omega
  have hB : isB c = false := by simp [isB, b32, b9, b10, b13]
  clear b32 b9 b10 b13
  have h125 : c = c := rfl
  cases z125 : ((c : Int) == 125) with
  | true =>
    by_cases h34 : c = 34
    · have z34 : ((c : Int) != 34) = false := by simp; omega
      have e1 : Hid (feed ⟨3, S, fr, nm, left, cnt, T⟩ c i = (0, ⟨6, S, i, true, left, cnt, T⟩)) := by unfold Hid; simp [feed, numb, ends, feedA, h34, isB]
      have H6 := hidden (((HMs.out.from' i).state 6).name true)
      have c2 := HMs.out.c2
      have f2 := HMs.out.free 2
      have c3 := HMs.out.c3
      have f3 := HMs.out.free 3
      clear hB h34 h125
      go_enter Try.func42, Try.ntmps42
      go_wp2_with fail
      refine cn.mono ?_
      rintro e w1 ⟨rfl, rfl⟩
      go_wp2_with fail
      refine ce.mono ?_
      rintro e w1 ⟨rfl, rfl⟩
      go_wp2_with fail
      go_ret
      rw [e1.out]
      exact ⟨rfl, _, _, H6.out⟩
    have z34 : ((c : Int) != 34) = true := by rw [bne_iff_ne]; omega
    have e1 : Hid (feed ⟨3, S, fr, nm, left, cnt, T⟩ c i = (5, ⟨3, S, fr, nm, left, cnt, T⟩)) := by unfold Hid; simp [feed, numb, ends, feedA, hB, h34]
    clear hB h34 h125
    go_enter Try.func42, Try.ntmps42
    go_wp2_with fail
    refine cn.mono ?_
    rintro e w1 ⟨rfl, rfl⟩
    go_wp2_with fail
    refine ce.mono ?_
    rintro e w1 ⟨rfl, rfl⟩
    go_wp2_with fail
    go_ret
    rw [e1.out]
    exact ⟨rfl, HM.out⟩
  | false =>
    by_cases h34 : c = 34
    · have z34 : ((c : Int) != 34) = false := by simp; omega
      have e1 : Hid (feed ⟨3, S, fr, nm, left, cnt, T⟩ c i = (0, ⟨6, S, i, true, left, cnt, T⟩)) := by unfold Hid; simp [feed, numb, ends, feedA, h34, isB]
      have H6 := hidden (((HMs.out.from' i).state 6).name true)
      have c2 := HMs.out.c2
      have f2 := HMs.out.free 2
      have c3 := HMs.out.c3
      have f3 := HMs.out.free 3
      clear hB h34 h125
      go_enter Try.func42, Try.ntmps42
      go_wp2_with fail
      refine cn.mono ?_
      rintro e w1 ⟨rfl, rfl⟩
      go_wp2_with fail
      refine ce.mono ?_
      rintro e w1 ⟨rfl, rfl⟩
      go_wp2_with fail
      go_ret
      rw [e1.out]
      exact ⟨rfl, _, _, H6.out⟩
    have z34 : ((c : Int) != 34) = true := by rw [bne_iff_ne]; omega
    have e1 : Hid (feed ⟨3, S, fr, nm, left, cnt, T⟩ c i = (5, ⟨3, S, fr, nm, left, cnt, T⟩)) := by unfold Hid; simp [feed, numb, ends, feedA, hB, h34]
    clear hB h34 h125
    go_enter Try.func42, Try.ntmps42
    go_wp2_with fail
    refine cn.mono ?_
    rintro e w1 ⟨rfl, rfl⟩
    go_wp2_with fail
    refine ce.mono ?_
    rintro e w1 ⟨rfl, rfl⟩
    go_wp2_with fail
    go_ret
    rw [e1.out]
    exact ⟨rfl, HM.out⟩

set_option maxHeartbeats 8000000 in
theorem feed4 {sv lv : Value} {S : List Nat} {fr : Nat} {nm : Bool} {left : List Nat} {cnt : Nat} {T : List Tk} (h : MS B K w0 w sv lv 4 S fr nm (strOf left) cnt T) (c i : Nat) (hc : c < 256) (hi : i < 100000) (hv : Iv ⟨4, S, fr, nm, left, cnt, T⟩ i) :
    Calls Try.prog 42 #[.pointer (some ⟨K, 0, none⟩), .int .u8 (c : Nat), .int .i64 (i : Nat)] w (Does B K w0 (feed ⟨4, S, fr, nm, left, cnt, T⟩ c i)) := by
  have c0 := h.c0
  have f0 := h.free 0
  have hm : MM B K w0 w ⟨4, S, fr, nm, left, cnt, T⟩ := ⟨_, _, h⟩
  have hvS := hv.S
  have hvl := hv.l
  have hvf := hv.fr
  simp only at hvS hvl hvf
  have ce : Calls Try.prog 43 #[.int .u8 4] w fun e w' => e = .returned (.bool false) ∧ w' = w := ends_any 4 w
  have cn : Calls Try.prog 67 #[.int .u8 4, .int .u8 (c : Nat)] w fun e w' => e = .returned (.tuple #[.int .u8 0, .bool false]) ∧ w' = w := by
    have := number_ref 4 c w (by decide) hc
    have e0 : numb 4 c = (0, false) := rfl
    rw [e0] at this
    exact this
  have HM := hidden hm
  have HMs := hidden h
  clear h hm hv
  by_cases b32 : c = 32
  · have z32 : ((c : Int) == 32) = true := by simp; omega
    have e1 : Hid (feed ⟨4, S, fr, nm, left, cnt, T⟩ c i = (0, ⟨4, S, fr, nm, left, cnt, T⟩)) := by unfold Hid; subst b32; simp [feed, numb, ends, feedA, isB]
    clear b32  
    go_enter Try.func42, Try.ntmps42
    go_wp2_with fail
    refine cn.mono ?_
    rintro e w1 ⟨rfl, rfl⟩
    go_wp2_with fail
    refine ce.mono ?_
    rintro e w1 ⟨rfl, rfl⟩
    go_wp2_with fail
    go_ret
    rw [e1.out]
    exact ⟨rfl, HM.out⟩
  have z32 : ((c : Int) == 32) = false := by simp; omega
  by_cases b9 : c = 9
  · have z9 : ((c : Int) == 9) = true := by simp; omega
    have e1 : Hid (feed ⟨4, S, fr, nm, left, cnt, T⟩ c i = (0, ⟨4, S, fr, nm, left, cnt, T⟩)) := by unfold Hid; subst b9; simp [feed, numb, ends, feedA, isB]
    clear b9  b32
    go_enter Try.func42, Try.ntmps42
    go_wp2_with fail
    refine cn.mono ?_
    rintro e w1 ⟨rfl, rfl⟩
    go_wp2_with fail
    refine ce.mono ?_
    rintro e w1 ⟨rfl, rfl⟩
    go_wp2_with fail
    go_ret
    rw [e1.out]
    exact ⟨rfl, HM.out⟩
  have z9 : ((c : Int) == 9) = false := by simp; omega
  by_cases b10 : c = 10
  · have z10 : ((c : Int) == 10) = true := by simp; omega
    have e1 : Hid (feed ⟨4, S, fr, nm, left, cnt, T⟩ c i = (0, ⟨4, S, fr, nm, left, cnt, T⟩)) := by unfold Hid; subst b10; simp [feed, numb, ends, feedA, isB]
    clear b10  b32 b9
    go_enter Try.func42, Try.ntmps42
    go_wp2_with fail
    refine cn.mono ?_
    rintro e w1 ⟨rfl, rfl⟩
    go_wp2_with fail
    refine ce.mono ?_
    rintro e w1 ⟨rfl, rfl⟩
    go_wp2_with fail
    go_ret
    rw [e1.out]
    exact ⟨rfl, HM.out⟩
  have z10 : ((c : Int) == 10) = false := by simp; omega
  by_cases b13 : c = 13
  · have z13 : ((c : Int) == 13) = true := by simp; omega
    have e1 : Hid (feed ⟨4, S, fr, nm, left, cnt, T⟩ c i = (0, ⟨4, S, fr, nm, left, cnt, T⟩)) := by unfold Hid; subst b13; simp [feed, numb, ends, feedA, isB]
    clear b13  b32 b9 b10
    go_enter Try.func42, Try.ntmps42
    go_wp2_with fail
    refine cn.mono ?_
    rintro e w1 ⟨rfl, rfl⟩
    go_wp2_with fail
    refine ce.mono ?_
    rintro e w1 ⟨rfl, rfl⟩
    go_wp2_with fail
    go_ret
    rw [e1.out]
    exact ⟨rfl, HM.out⟩
  have z13 : ((c : Int) == 13) = false := by simp; omega
  have hB : isB c = false := by simp [isB, b32, b9, b10, b13]
  clear b32 b9 b10 b13
  by_cases h58 : c = 58
  · have z58 : ((c : Int) != 58) = false := by simp; omega
    have e1 : Hid (feed ⟨4, S, fr, nm, left, cnt, T⟩ c i = (0, one ⟨4, S, fr, nm, left, cnt, T⟩ 4 i 0)) := by unfold Hid; simp [feed, numb, ends, feedA, h58, isB]
    have cl := one_any HM.out 4 i 0 (by simp only; omega)
    clear hB h58
    go_enter Try.func42, Try.ntmps42
    go_wp2_with fail
    refine cn.mono ?_
    rintro e w1 ⟨rfl, rfl⟩
    go_wp2_with fail
    refine ce.mono ?_
    rintro e w1 ⟨rfl, rfl⟩
    go_wp2_with fail
    refine cl.mono ?_
    rintro e w4 ⟨rfl, h4⟩
    have H4 := hidden h4
    clear cl h4
    go_wp2_with fail
    go_ret
    rw [e1.out]
    exact ⟨rfl, H4.out⟩
  have z58 : ((c : Int) != 58) = true := by rw [bne_iff_ne]; omega
  have e1 : Hid (feed ⟨4, S, fr, nm, left, cnt, T⟩ c i = (5, ⟨4, S, fr, nm, left, cnt, T⟩)) := by unfold Hid; simp [feed, numb, ends, feedA, hB, h58]
  clear hB h58
  go_enter Try.func42, Try.ntmps42
  go_wp2_with fail
  refine cn.mono ?_
  rintro e w1 ⟨rfl, rfl⟩
  go_wp2_with fail
  refine ce.mono ?_
  rintro e w1 ⟨rfl, rfl⟩
  go_wp2_with fail
  go_ret
  rw [e1.out]
  exact ⟨rfl, HM.out⟩

set_option maxHeartbeats 8000000 in
theorem feed5 {sv lv : Value} {S : List Nat} {fr : Nat} {nm : Bool} {left : List Nat} {cnt : Nat} {T : List Tk} (h : MS B K w0 w sv lv 5 S fr nm (strOf left) cnt T) (c i : Nat) (hc : c < 256) (hi : i < 100000) (hv : Iv ⟨5, S, fr, nm, left, cnt, T⟩ i) :
    Calls Try.prog 42 #[.pointer (some ⟨K, 0, none⟩), .int .u8 (c : Nat), .int .i64 (i : Nat)] w (Does B K w0 (feed ⟨5, S, fr, nm, left, cnt, T⟩ c i)) := by
  have c0 := h.c0
  have f0 := h.free 0
  have hm : MM B K w0 w ⟨5, S, fr, nm, left, cnt, T⟩ := ⟨_, _, h⟩
  have hvS := hv.S
  have hvl := hv.l
  have hvf := hv.fr
  simp only at hvS hvl hvf
  have ce : Calls Try.prog 43 #[.int .u8 5] w fun e w' => e = .returned (.bool false) ∧ w' = w := ends_any 5 w
  have cn : Calls Try.prog 67 #[.int .u8 5, .int .u8 (c : Nat)] w fun e w' => e = .returned (.tuple #[.int .u8 0, .bool false]) ∧ w' = w := by
    have := number_ref 5 c w (by decide) hc
    have e0 : numb 5 c = (0, false) := rfl
    rw [e0] at this
    exact this
  have HM := hidden hm
  have HMs := hidden h
  clear h hm hv
  by_cases b32 : c = 32
  · have z32 : ((c : Int) == 32) = true := by simp; omega
    have e1 : Hid (feed ⟨5, S, fr, nm, left, cnt, T⟩ c i = (0, ⟨5, S, fr, nm, left, cnt, T⟩)) := by unfold Hid; subst b32; simp [feed, numb, ends, feedA, isB]
    clear b32  
    go_enter Try.func42, Try.ntmps42
    go_wp2_with fail
    refine cn.mono ?_
    rintro e w1 ⟨rfl, rfl⟩
    go_wp2_with fail
    refine ce.mono ?_
    rintro e w1 ⟨rfl, rfl⟩
    go_wp2_with fail
    go_ret
    rw [e1.out]
    exact ⟨rfl, HM.out⟩
  have z32 : ((c : Int) == 32) = false := by simp; omega
  by_cases b9 : c = 9
  · have z9 : ((c : Int) == 9) = true := by simp; omega
    have e1 : Hid (feed ⟨5, S, fr, nm, left, cnt, T⟩ c i = (0, ⟨5, S, fr, nm, left, cnt, T⟩)) := by unfold Hid; subst b9; simp [feed, numb, ends, feedA, isB]
    clear b9  b32
    go_enter Try.func42, Try.ntmps42
    go_wp2_with fail
    refine cn.mono ?_
    rintro e w1 ⟨rfl, rfl⟩
    go_wp2_with fail
    refine ce.mono ?_
    rintro e w1 ⟨rfl, rfl⟩
    go_wp2_with fail
    go_ret
    rw [e1.out]
    exact ⟨rfl, HM.out⟩
  have z9 : ((c : Int) == 9) = false := by simp; omega
  by_cases b10 : c = 10
  · have z10 : ((c : Int) == 10) = true := by simp; omega
    have e1 : Hid (feed ⟨5, S, fr, nm, left, cnt, T⟩ c i = (0, ⟨5, S, fr, nm, left, cnt, T⟩)) := by unfold Hid; subst b10; simp [feed, numb, ends, feedA, isB]
    clear b10  b32 b9
    go_enter Try.func42, Try.ntmps42
    go_wp2_with fail
    refine cn.mono ?_
    rintro e w1 ⟨rfl, rfl⟩
    go_wp2_with fail
    refine ce.mono ?_
    rintro e w1 ⟨rfl, rfl⟩
    go_wp2_with fail
    go_ret
    rw [e1.out]
    exact ⟨rfl, HM.out⟩
  have z10 : ((c : Int) == 10) = false := by simp; omega
  by_cases b13 : c = 13
  · have z13 : ((c : Int) == 13) = true := by simp; omega
    have e1 : Hid (feed ⟨5, S, fr, nm, left, cnt, T⟩ c i = (0, ⟨5, S, fr, nm, left, cnt, T⟩)) := by unfold Hid; subst b13; simp [feed, numb, ends, feedA, isB]
    clear b13  b32 b9 b10
    go_enter Try.func42, Try.ntmps42
    go_wp2_with fail
    refine cn.mono ?_
    rintro e w1 ⟨rfl, rfl⟩
    go_wp2_with fail
    refine ce.mono ?_
    rintro e w1 ⟨rfl, rfl⟩
    go_wp2_with fail
    go_ret
    rw [e1.out]
    exact ⟨rfl, HM.out⟩
  have z13 : ((c : Int) == 13) = false := by simp; omega
  have hB : isB c = false := by simp [isB, b32, b9, b10, b13]
  clear b32 b9 b10 b13
  have e1 : Hid (feed ⟨5, S, fr, nm, left, cnt, T⟩ c i = next ⟨5, S, fr, nm, left, cnt, T⟩ c i) := by unfold Hid; simp [feed, numb, ends, feedA, hB]
  have cl := next_any HM.out c i (by simp only; omega) (by simp only; omega)
  generalize next ⟨5, S, fr, nm, left, cnt, T⟩ c i = p at *
  clear hB
  go_enter Try.func42, Try.ntmps42
  go_wp2_with fail
  refine cn.mono ?_
  rintro e w1 ⟨rfl, rfl⟩
  go_wp2_with fail
  refine ce.mono ?_
  rintro e w1 ⟨rfl, rfl⟩
  go_wp2_with fail
  refine cl.mono ?_
  rintro e w4 ⟨rfl, h4⟩
  have H4 := hidden h4
  clear cl h4
  go_wp2_with fail
  go_ret
  rw [e1.out]
  exact ⟨rfl, H4.out⟩

set_option maxHeartbeats 8000000 in
theorem feed6 {sv lv : Value} {S : List Nat} {fr : Nat} {nm : Bool} {left : List Nat} {cnt : Nat} {T : List Tk} (h : MS B K w0 w sv lv 6 S fr nm (strOf left) cnt T) (c i : Nat) (hc : c < 256) (hi : i < 100000) (hv : Iv ⟨6, S, fr, nm, left, cnt, T⟩ i) :
    Calls Try.prog 42 #[.pointer (some ⟨K, 0, none⟩), .int .u8 (c : Nat), .int .i64 (i : Nat)] w (Does B K w0 (feed ⟨6, S, fr, nm, left, cnt, T⟩ c i)) := by
  have c0 := h.c0
  have f0 := h.free 0
  have hm : MM B K w0 w ⟨6, S, fr, nm, left, cnt, T⟩ := ⟨_, _, h⟩
  have hvS := hv.S
  have hvl := hv.l
  have hvf := hv.fr
  simp only at hvS hvl hvf
  have ce : Calls Try.prog 43 #[.int .u8 6] w fun e w' => e = .returned (.bool false) ∧ w' = w := ends_any 6 w
  have cn : Calls Try.prog 67 #[.int .u8 6, .int .u8 (c : Nat)] w fun e w' => e = .returned (.tuple #[.int .u8 0, .bool false]) ∧ w' = w := by
    have := number_ref 6 c w (by decide) hc
    have e0 : numb 6 c = (0, false) := rfl
    rw [e0] at this
    exact this
  have cl := inside6 h c i hc (by omega) hvf (by omega)
  have e1 : Hid (feed ⟨6, S, fr, nm, left, cnt, T⟩ c i = inside ⟨6, S, fr, nm, left, cnt, T⟩ c i) := by unfold Hid; simp [feed, numb, ends, feedA]
  generalize inside ⟨6, S, fr, nm, left, cnt, T⟩ c i = p at *
  clear h hm hv
  go_enter Try.func42, Try.ntmps42
  go_wp2_with fail
  refine cn.mono ?_
  rintro e w1 ⟨rfl, rfl⟩
  go_wp2_with fail
  refine ce.mono ?_
  rintro e w1 ⟨rfl, rfl⟩
  go_wp2_with fail
  refine cl.mono ?_
  rintro e w4 ⟨rfl, h4⟩
  have H4 := hidden h4
  clear cl h4
  go_wp2_with fail
  go_ret
  rw [e1.out]
  exact ⟨rfl, H4.out⟩

set_option maxHeartbeats 8000000 in
theorem feed7 {sv lv : Value} {S : List Nat} {fr : Nat} {nm : Bool} {left : List Nat} {cnt : Nat} {T : List Tk} (h : MS B K w0 w sv lv 7 S fr nm (strOf left) cnt T) (c i : Nat) (hc : c < 256) (hi : i < 100000) (hv : Iv ⟨7, S, fr, nm, left, cnt, T⟩ i) :
    Calls Try.prog 42 #[.pointer (some ⟨K, 0, none⟩), .int .u8 (c : Nat), .int .i64 (i : Nat)] w (Does B K w0 (feed ⟨7, S, fr, nm, left, cnt, T⟩ c i)) := by
  have c0 := h.c0
  have f0 := h.free 0
  have hm : MM B K w0 w ⟨7, S, fr, nm, left, cnt, T⟩ := ⟨_, _, h⟩
  have hvS := hv.S
  have hvl := hv.l
  have hvf := hv.fr
  simp only at hvS hvl hvf
  have ce : Calls Try.prog 43 #[.int .u8 7] w fun e w' => e = .returned (.bool false) ∧ w' = w := ends_any 7 w
  have cn : Calls Try.prog 67 #[.int .u8 7, .int .u8 (c : Nat)] w fun e w' => e = .returned (.tuple #[.int .u8 0, .bool false]) ∧ w' = w := by
    have := number_ref 7 c w (by decide) hc
    have e0 : numb 7 c = (0, false) := rfl
    rw [e0] at this
    exact this
  have cl := inside7 h c i hc (by omega)
  have e1 : Hid (feed ⟨7, S, fr, nm, left, cnt, T⟩ c i = inside ⟨7, S, fr, nm, left, cnt, T⟩ c i) := by unfold Hid; simp [feed, numb, ends, feedA]
  generalize inside ⟨7, S, fr, nm, left, cnt, T⟩ c i = p at *
  clear h hm hv
  go_enter Try.func42, Try.ntmps42
  go_wp2_with fail
  refine cn.mono ?_
  rintro e w1 ⟨rfl, rfl⟩
  go_wp2_with fail
  refine ce.mono ?_
  rintro e w1 ⟨rfl, rfl⟩
  go_wp2_with fail
  refine cl.mono ?_
  rintro e w4 ⟨rfl, h4⟩
  have H4 := hidden h4
  clear cl h4
  go_wp2_with fail
  go_ret
  rw [e1.out]
  exact ⟨rfl, H4.out⟩

set_option maxHeartbeats 8000000 in
theorem feed8 {sv lv : Value} {S : List Nat} {fr : Nat} {nm : Bool} {left : List Nat} {cnt : Nat} {T : List Tk} (h : MS B K w0 w sv lv 8 S fr nm (strOf left) cnt T) (c i : Nat) (hc : c < 256) (hi : i < 100000) (hv : Iv ⟨8, S, fr, nm, left, cnt, T⟩ i) :
    Calls Try.prog 42 #[.pointer (some ⟨K, 0, none⟩), .int .u8 (c : Nat), .int .i64 (i : Nat)] w (Does B K w0 (feed ⟨8, S, fr, nm, left, cnt, T⟩ c i)) := by
  have c0 := h.c0
  have f0 := h.free 0
  have hm : MM B K w0 w ⟨8, S, fr, nm, left, cnt, T⟩ := ⟨_, _, h⟩
  have hvS := hv.S
  have hvl := hv.l
  have hvf := hv.fr
  simp only at hvS hvl hvf
  have ce : Calls Try.prog 43 #[.int .u8 8] w fun e w' => e = .returned (.bool false) ∧ w' = w := ends_any 8 w
  have cn : Calls Try.prog 67 #[.int .u8 8, .int .u8 (c : Nat)] w fun e w' => e = .returned (.tuple #[.int .u8 0, .bool false]) ∧ w' = w := by
    have := number_ref 8 c w (by decide) hc
    have e0 : numb 8 c = (0, false) := rfl
    rw [e0] at this
    exact this
  have cl := inside8 h c i hc (by omega) (hv.h rfl).1 (hv.h rfl).2
  have e1 : Hid (feed ⟨8, S, fr, nm, left, cnt, T⟩ c i = inside ⟨8, S, fr, nm, left, cnt, T⟩ c i) := by unfold Hid; simp [feed, numb, ends, feedA]
  generalize inside ⟨8, S, fr, nm, left, cnt, T⟩ c i = p at *
  clear h hm hv
  go_enter Try.func42, Try.ntmps42
  go_wp2_with fail
  refine cn.mono ?_
  rintro e w1 ⟨rfl, rfl⟩
  go_wp2_with fail
  refine ce.mono ?_
  rintro e w1 ⟨rfl, rfl⟩
  go_wp2_with fail
  refine cl.mono ?_
  rintro e w4 ⟨rfl, h4⟩
  have H4 := hidden h4
  clear cl h4
  go_wp2_with fail
  go_ret
  rw [e1.out]
  exact ⟨rfl, H4.out⟩

set_option maxHeartbeats 8000000 in
theorem feed17 {sv lv : Value} {S : List Nat} {fr : Nat} {nm : Bool} {left : List Nat} {cnt : Nat} {T : List Tk} (h : MS B K w0 w sv lv 17 S fr nm (strOf left) cnt T) (c i : Nat) (hc : c < 256) (hi : i < 100000) (hv : Iv ⟨17, S, fr, nm, left, cnt, T⟩ i) :
    Calls Try.prog 42 #[.pointer (some ⟨K, 0, none⟩), .int .u8 (c : Nat), .int .i64 (i : Nat)] w (Does B K w0 (feed ⟨17, S, fr, nm, left, cnt, T⟩ c i)) := by
  have c0 := h.c0
  have f0 := h.free 0
  have hm : MM B K w0 w ⟨17, S, fr, nm, left, cnt, T⟩ := ⟨_, _, h⟩
  have hvS := hv.S
  have hvl := hv.l
  have hvf := hv.fr
  simp only at hvS hvl hvf
  have ce : Calls Try.prog 43 #[.int .u8 17] w fun e w' => e = .returned (.bool false) ∧ w' = w := ends_any 17 w
  have cn : Calls Try.prog 67 #[.int .u8 17, .int .u8 (c : Nat)] w fun e w' => e = .returned (.tuple #[.int .u8 0, .bool false]) ∧ w' = w := by
    have := number_ref 17 c w (by decide) hc
    have e0 : numb 17 c = (0, false) := rfl
    rw [e0] at this
    exact this
  obtain ⟨b, r, hl, hx⟩ := hv.w rfl
  simp only at hl hx
  subst hl
  have cl := inside17 h c i hc (by omega) hvf (by omega) (hx b (List.mem_cons_self ..))
  have e1 : Hid (feed ⟨17, S, fr, nm, b :: r, cnt, T⟩ c i = inside ⟨17, S, fr, nm, b :: r, cnt, T⟩ c i) := by unfold Hid; simp [feed, numb, ends, feedA]
  generalize inside ⟨17, S, fr, nm, b :: r, cnt, T⟩ c i = p at *
  clear h hm hv hx
  go_enter Try.func42, Try.ntmps42
  go_wp2_with fail
  refine cn.mono ?_
  rintro e w1 ⟨rfl, rfl⟩
  go_wp2_with fail
  refine ce.mono ?_
  rintro e w1 ⟨rfl, rfl⟩
  go_wp2_with fail
  refine cl.mono ?_
  rintro e w4 ⟨rfl, h4⟩
  have H4 := hidden h4
  clear cl h4
  go_wp2_with fail
  go_ret
  rw [e1.out]
  exact ⟨rfl, H4.out⟩

set_option maxHeartbeats 8000000 in
theorem feed9 {sv lv : Value} {S : List Nat} {fr : Nat} {nm : Bool} {left : List Nat} {cnt : Nat} {T : List Tk} (h : MS B K w0 w sv lv 9 S fr nm (strOf left) cnt T) (c i : Nat) (hc : c < 256) (hi : i < 100000) (hv : Iv ⟨9, S, fr, nm, left, cnt, T⟩ i) :
    Calls Try.prog 42 #[.pointer (some ⟨K, 0, none⟩), .int .u8 (c : Nat), .int .i64 (i : Nat)] w (Does B K w0 (feed ⟨9, S, fr, nm, left, cnt, T⟩ c i)) := by
  have c0 := h.c0
  have f0 := h.free 0
  have hm : MM B K w0 w ⟨9, S, fr, nm, left, cnt, T⟩ := ⟨_, _, h⟩
  have hvS := hv.S
  have hvl := hv.l
  have hvf := hv.fr
  simp only at hvS hvl hvf
  have ce : Calls Try.prog 43 #[.int .u8 9] w fun e w' => e = .returned (.bool false) ∧ w' = w := ends_any 9 w
  have cn := number_ref 9 c w (by decide) hc
  rcases hnb : numb 9 c with ⟨s', ok⟩
  rw [hnb] at cn
  have HM := hidden hm
  cases ok with
  | true =>
    have e1 : Hid (feed ⟨9, S, fr, nm, left, cnt, T⟩ c i = (0, ⟨s', S, fr, nm, left, cnt, T⟩)) := by unfold Hid; simp [feed, hnb]
    have H6 := hidden (h.state s')
    clear h hm hv hnb
    replace cn : Calls Try.prog 67 #[.int .u8 9, .int .u8 (c : Nat)] w fun e w' => e = .returned (.tuple #[.int .u8 (s' : Nat), .bool true]) ∧ w' = w := cn
    go_enter Try.func42, Try.ntmps42
    go_wp2_with fail
    refine cn.mono ?_
    rintro e w1 ⟨rfl, rfl⟩
    go_wp2_with fail
    go_ret
    rw [e1.out]
    exact ⟨rfl, _, _, H6.out⟩
  | false =>
    have e1 : Hid (feed ⟨9, S, fr, nm, left, cnt, T⟩ c i = (5, ⟨9, S, fr, nm, left, cnt, T⟩)) := by unfold Hid; simp [feed, hnb, ends, feedA]
    clear h hm hv hnb
    replace cn : Calls Try.prog 67 #[.int .u8 9, .int .u8 (c : Nat)] w fun e w' => e = .returned (.tuple #[.int .u8 (s' : Nat), .bool false]) ∧ w' = w := cn
    go_enter Try.func42, Try.ntmps42
    go_wp2_with fail
    refine cn.mono ?_
    rintro e w1 ⟨rfl, rfl⟩
    go_wp2_with fail
    refine ce.mono ?_
    rintro e w1 ⟨rfl, rfl⟩
    go_wp2_with fail
    go_ret
    rw [e1.out]
    exact ⟨rfl, HM.out⟩

set_option maxHeartbeats 8000000 in
theorem feed12 {sv lv : Value} {S : List Nat} {fr : Nat} {nm : Bool} {left : List Nat} {cnt : Nat} {T : List Tk} (h : MS B K w0 w sv lv 12 S fr nm (strOf left) cnt T) (c i : Nat) (hc : c < 256) (hi : i < 100000) (hv : Iv ⟨12, S, fr, nm, left, cnt, T⟩ i) :
    Calls Try.prog 42 #[.pointer (some ⟨K, 0, none⟩), .int .u8 (c : Nat), .int .i64 (i : Nat)] w (Does B K w0 (feed ⟨12, S, fr, nm, left, cnt, T⟩ c i)) := by
  have c0 := h.c0
  have f0 := h.free 0
  have hm : MM B K w0 w ⟨12, S, fr, nm, left, cnt, T⟩ := ⟨_, _, h⟩
  have hvS := hv.S
  have hvl := hv.l
  have hvf := hv.fr
  simp only at hvS hvl hvf
  have ce : Calls Try.prog 43 #[.int .u8 12] w fun e w' => e = .returned (.bool false) ∧ w' = w := ends_any 12 w
  have cn := number_ref 12 c w (by decide) hc
  rcases hnb : numb 12 c with ⟨s', ok⟩
  rw [hnb] at cn
  have HM := hidden hm
  cases ok with
  | true =>
    have e1 : Hid (feed ⟨12, S, fr, nm, left, cnt, T⟩ c i = (0, ⟨s', S, fr, nm, left, cnt, T⟩)) := by unfold Hid; simp [feed, hnb]
    have H6 := hidden (h.state s')
    clear h hm hv hnb
    replace cn : Calls Try.prog 67 #[.int .u8 12, .int .u8 (c : Nat)] w fun e w' => e = .returned (.tuple #[.int .u8 (s' : Nat), .bool true]) ∧ w' = w := cn
    go_enter Try.func42, Try.ntmps42
    go_wp2_with fail
    refine cn.mono ?_
    rintro e w1 ⟨rfl, rfl⟩
    go_wp2_with fail
    go_ret
    rw [e1.out]
    exact ⟨rfl, _, _, H6.out⟩
  | false =>
    have e1 : Hid (feed ⟨12, S, fr, nm, left, cnt, T⟩ c i = (5, ⟨12, S, fr, nm, left, cnt, T⟩)) := by unfold Hid; simp [feed, hnb, ends, feedA]
    clear h hm hv hnb
    replace cn : Calls Try.prog 67 #[.int .u8 12, .int .u8 (c : Nat)] w fun e w' => e = .returned (.tuple #[.int .u8 (s' : Nat), .bool false]) ∧ w' = w := cn
    go_enter Try.func42, Try.ntmps42
    go_wp2_with fail
    refine cn.mono ?_
    rintro e w1 ⟨rfl, rfl⟩
    go_wp2_with fail
    refine ce.mono ?_
    rintro e w1 ⟨rfl, rfl⟩
    go_wp2_with fail
    go_ret
    rw [e1.out]
    exact ⟨rfl, HM.out⟩

set_option maxHeartbeats 8000000 in
theorem feed14 {sv lv : Value} {S : List Nat} {fr : Nat} {nm : Bool} {left : List Nat} {cnt : Nat} {T : List Tk} (h : MS B K w0 w sv lv 14 S fr nm (strOf left) cnt T) (c i : Nat) (hc : c < 256) (hi : i < 100000) (hv : Iv ⟨14, S, fr, nm, left, cnt, T⟩ i) :
    Calls Try.prog 42 #[.pointer (some ⟨K, 0, none⟩), .int .u8 (c : Nat), .int .i64 (i : Nat)] w (Does B K w0 (feed ⟨14, S, fr, nm, left, cnt, T⟩ c i)) := by
  have c0 := h.c0
  have f0 := h.free 0
  have hm : MM B K w0 w ⟨14, S, fr, nm, left, cnt, T⟩ := ⟨_, _, h⟩
  have hvS := hv.S
  have hvl := hv.l
  have hvf := hv.fr
  simp only at hvS hvl hvf
  have ce : Calls Try.prog 43 #[.int .u8 14] w fun e w' => e = .returned (.bool false) ∧ w' = w := ends_any 14 w
  have cn := number_ref 14 c w (by decide) hc
  rcases hnb : numb 14 c with ⟨s', ok⟩
  rw [hnb] at cn
  have HM := hidden hm
  cases ok with
  | true =>
    have e1 : Hid (feed ⟨14, S, fr, nm, left, cnt, T⟩ c i = (0, ⟨s', S, fr, nm, left, cnt, T⟩)) := by unfold Hid; simp [feed, hnb]
    have H6 := hidden (h.state s')
    clear h hm hv hnb
    replace cn : Calls Try.prog 67 #[.int .u8 14, .int .u8 (c : Nat)] w fun e w' => e = .returned (.tuple #[.int .u8 (s' : Nat), .bool true]) ∧ w' = w := cn
    go_enter Try.func42, Try.ntmps42
    go_wp2_with fail
    refine cn.mono ?_
    rintro e w1 ⟨rfl, rfl⟩
    go_wp2_with fail
    go_ret
    rw [e1.out]
    exact ⟨rfl, _, _, H6.out⟩
  | false =>
    have e1 : Hid (feed ⟨14, S, fr, nm, left, cnt, T⟩ c i = (5, ⟨14, S, fr, nm, left, cnt, T⟩)) := by unfold Hid; simp [feed, hnb, ends, feedA]
    clear h hm hv hnb
    replace cn : Calls Try.prog 67 #[.int .u8 14, .int .u8 (c : Nat)] w fun e w' => e = .returned (.tuple #[.int .u8 (s' : Nat), .bool false]) ∧ w' = w := cn
    go_enter Try.func42, Try.ntmps42
    go_wp2_with fail
    refine cn.mono ?_
    rintro e w1 ⟨rfl, rfl⟩
    go_wp2_with fail
    refine ce.mono ?_
    rintro e w1 ⟨rfl, rfl⟩
    go_wp2_with fail
    go_ret
    rw [e1.out]
    exact ⟨rfl, HM.out⟩

set_option maxHeartbeats 8000000 in
theorem feed15 {sv lv : Value} {S : List Nat} {fr : Nat} {nm : Bool} {left : List Nat} {cnt : Nat} {T : List Tk} (h : MS B K w0 w sv lv 15 S fr nm (strOf left) cnt T) (c i : Nat) (hc : c < 256) (hi : i < 100000) (hv : Iv ⟨15, S, fr, nm, left, cnt, T⟩ i) :
    Calls Try.prog 42 #[.pointer (some ⟨K, 0, none⟩), .int .u8 (c : Nat), .int .i64 (i : Nat)] w (Does B K w0 (feed ⟨15, S, fr, nm, left, cnt, T⟩ c i)) := by
  have c0 := h.c0
  have f0 := h.free 0
  have hm : MM B K w0 w ⟨15, S, fr, nm, left, cnt, T⟩ := ⟨_, _, h⟩
  have hvS := hv.S
  have hvl := hv.l
  have hvf := hv.fr
  simp only at hvS hvl hvf
  have ce : Calls Try.prog 43 #[.int .u8 15] w fun e w' => e = .returned (.bool false) ∧ w' = w := ends_any 15 w
  have cn := number_ref 15 c w (by decide) hc
  rcases hnb : numb 15 c with ⟨s', ok⟩
  rw [hnb] at cn
  have HM := hidden hm
  cases ok with
  | true =>
    have e1 : Hid (feed ⟨15, S, fr, nm, left, cnt, T⟩ c i = (0, ⟨s', S, fr, nm, left, cnt, T⟩)) := by unfold Hid; simp [feed, hnb]
    have H6 := hidden (h.state s')
    clear h hm hv hnb
    replace cn : Calls Try.prog 67 #[.int .u8 15, .int .u8 (c : Nat)] w fun e w' => e = .returned (.tuple #[.int .u8 (s' : Nat), .bool true]) ∧ w' = w := cn
    go_enter Try.func42, Try.ntmps42
    go_wp2_with fail
    refine cn.mono ?_
    rintro e w1 ⟨rfl, rfl⟩
    go_wp2_with fail
    go_ret
    rw [e1.out]
    exact ⟨rfl, _, _, H6.out⟩
  | false =>
    have e1 : Hid (feed ⟨15, S, fr, nm, left, cnt, T⟩ c i = (5, ⟨15, S, fr, nm, left, cnt, T⟩)) := by unfold Hid; simp [feed, hnb, ends, feedA]
    clear h hm hv hnb
    replace cn : Calls Try.prog 67 #[.int .u8 15, .int .u8 (c : Nat)] w fun e w' => e = .returned (.tuple #[.int .u8 (s' : Nat), .bool false]) ∧ w' = w := cn
    go_enter Try.func42, Try.ntmps42
    go_wp2_with fail
    refine cn.mono ?_
    rintro e w1 ⟨rfl, rfl⟩
    go_wp2_with fail
    refine ce.mono ?_
    rintro e w1 ⟨rfl, rfl⟩
    go_wp2_with fail
    go_ret
    rw [e1.out]
    exact ⟨rfl, HM.out⟩

set_option maxHeartbeats 8000000 in
theorem feedE4 {sv lv : Value} {st : Nat} {S : List Nat} {fr : Nat} {left : List Nat} {cnt : Nat} {T : List Tk} (h : MS B K w0 w sv lv st S fr true (strOf left) cnt T) (hst : ends st = true) (c i : Nat) (hc : c < 256) (hi : i < 100000) (hv : Iv ⟨st, S, fr, true, left, cnt, T⟩ i) :
    Calls Try.prog 42 #[.pointer (some ⟨K, 0, none⟩), .int .u8 (c : Nat), .int .i64 (i : Nat)] w (Does B K w0 (feed ⟨st, S, fr, true, left, cnt, T⟩ c i)) := by
  have c0 := h.c0
  have f0 := h.free 0
  have hm : MM B K w0 w ⟨st, S, fr, true, left, cnt, T⟩ := ⟨_, _, h⟩
  have hvS := hv.S
  have hvl := hv.l
  have hvf := hv.fr
  simp only at hvS hvl hvf
  have cn := number_ref st c w hv.s hc
  have ce := ends_any st w
  rw [hst] at ce
  have ca := atom_any hm i hvf (by omega) (by simp only; omega)
  have hT4 : (T ++ [(5, fr, i - fr)]).length ≤ 1000000 := by simp; omega
  have hS4 := hvS
  rcases hnb : numb st c with ⟨s', ok⟩
  rw [hnb] at cn
  cases ok with
  | true =>
    have e1 : Hid (feed ⟨st, S, fr, true, left, cnt, T⟩ c i = (0, ⟨s', S, fr, true, left, cnt, T⟩)) := by unfold Hid; simp [feed, hnb]
    have H6 := hidden (h.state s')
    clear h hm hv hnb ca ce hst
    replace cn : Calls Try.prog 67 #[.int .u8 (st : Nat), .int .u8 (c : Nat)] w fun e w' => e = .returned (.tuple #[.int .u8 (s' : Nat), .bool true]) ∧ w' = w := cn
    go_enter Try.func42, Try.ntmps42
    go_wp2_with fail
    refine cn.mono ?_
    rintro e w1 ⟨rfl, rfl⟩
    go_wp2_with fail
    go_ret
    rw [e1.out]
    exact ⟨rfl, _, _, H6.out⟩
  | false =>
    have eF : Hid (feed ⟨st, S, fr, true, left, cnt, T⟩ c i = feedA ⟨4, S, fr, false, left, cnt, T ++ [(5, fr, i - fr)]⟩ c i) := by unfold Hid; simp [feed, hnb, hst, atom]
    replace cn : Calls Try.prog 67 #[.int .u8 (st : Nat), .int .u8 (c : Nat)] w fun e w' => e = .returned (.tuple #[.int .u8 (s' : Nat), .bool false]) ∧ w' = w := cn
    replace ca : Calls Try.prog 44 #[.pointer (some ⟨K, 0, none⟩), .int .i64 (i : Nat)] w fun e w' => e = .returned (.tuple #[]) ∧ MM B K w0 w' ⟨4, S, fr, false, left, cnt, T ++ [(5, fr, i - fr)]⟩ := ca
    clear h hm hv hnb hst
    go_enter Try.func42, Try.ntmps42
    go_wp2_with fail
    refine cn.mono ?_
    rintro e w1 ⟨rfl, rfl⟩
    go_wp2_with fail
    refine ce.mono ?_
    rintro e w1 ⟨rfl, rfl⟩
    go_wp2_with fail
    refine ca.mono ?_
    rintro e w3 ⟨rfl, h3⟩
    clear ca ce cn c0 f0
    have HM := hidden h3
    obtain ⟨sv3, lv3, h3⟩ := h3
    have c0 := h3.c0
    have f0 := h3.free 0
    clear h3
    by_cases b32 : c = 32
    · have z32 : ((c : Int) == 32) = true := by simp; omega
      have e1 : Hid (feed ⟨st, S, fr, true, left, cnt, T⟩ c i = (0, ⟨4, S, fr, false, left, cnt, T ++ [(5, fr, i - fr)]⟩)) := by unfold Hid; rw [eF.out]; subst b32; simp [feedA, isB]
      clear b32  
      go_wp2_with fail
      go_ret
      rw [e1.out]
      exact ⟨rfl, HM.out⟩
    have z32 : ((c : Int) == 32) = false := by simp; omega
    by_cases b9 : c = 9
    · have z9 : ((c : Int) == 9) = true := by simp; omega
      have e1 : Hid (feed ⟨st, S, fr, true, left, cnt, T⟩ c i = (0, ⟨4, S, fr, false, left, cnt, T ++ [(5, fr, i - fr)]⟩)) := by unfold Hid; rw [eF.out]; subst b9; simp [feedA, isB]
      clear b9  b32
      go_wp2_with fail
      go_ret
      rw [e1.out]
      exact ⟨rfl, HM.out⟩
    have z9 : ((c : Int) == 9) = false := by simp; omega
    by_cases b10 : c = 10
    · have z10 : ((c : Int) == 10) = true := by simp; omega
      have e1 : Hid (feed ⟨st, S, fr, true, left, cnt, T⟩ c i = (0, ⟨4, S, fr, false, left, cnt, T ++ [(5, fr, i - fr)]⟩)) := by unfold Hid; rw [eF.out]; subst b10; simp [feedA, isB]
      clear b10  b32 b9
      go_wp2_with fail
      go_ret
      rw [e1.out]
      exact ⟨rfl, HM.out⟩
    have z10 : ((c : Int) == 10) = false := by simp; omega
    by_cases b13 : c = 13
    · have z13 : ((c : Int) == 13) = true := by simp; omega
      have e1 : Hid (feed ⟨st, S, fr, true, left, cnt, T⟩ c i = (0, ⟨4, S, fr, false, left, cnt, T ++ [(5, fr, i - fr)]⟩)) := by unfold Hid; rw [eF.out]; subst b13; simp [feedA, isB]
      clear b13  b32 b9 b10
      go_wp2_with fail
      go_ret
      rw [e1.out]
      exact ⟨rfl, HM.out⟩
    have z13 : ((c : Int) == 13) = false := by simp; omega
    have hB : isB c = false := by simp [isB, b32, b9, b10, b13]
    clear b32 b9 b10 b13
    by_cases h58 : c = 58
    · have z58 : ((c : Int) != 58) = false := by simp; omega
      have e1 : Hid (feed ⟨st, S, fr, true, left, cnt, T⟩ c i = (0, one ⟨4, S, fr, false, left, cnt, T ++ [(5, fr, i - fr)]⟩ 4 i 0)) := by unfold Hid; rw [eF.out]; simp [feedA, h58, isB]
      have cl := one_any HM.out 4 i 0 hT4
      clear hB h58
      go_wp2_with fail
      refine cl.mono ?_
      rintro e w4 ⟨rfl, h4⟩
      have H4 := hidden h4
      clear cl h4
      go_wp2_with fail
      go_ret
      rw [e1.out]
      exact ⟨rfl, H4.out⟩
    have z58 : ((c : Int) != 58) = true := by rw [bne_iff_ne]; omega
    have e1 : Hid (feed ⟨st, S, fr, true, left, cnt, T⟩ c i = (5, ⟨4, S, fr, false, left, cnt, T ++ [(5, fr, i - fr)]⟩)) := by unfold Hid; rw [eF.out]; simp [feedA, hB, h58]
    clear hB h58
    go_wp2_with fail
    go_ret
    rw [e1.out]
    exact ⟨rfl, HM.out⟩
set_option maxHeartbeats 8000000 in
theorem feedE5 {sv lv : Value} {st : Nat} {S : List Nat} {fr : Nat} {left : List Nat} {cnt : Nat} {T : List Tk} (h : MS B K w0 w sv lv st S fr false (strOf left) cnt T) (hst : ends st = true) (c i : Nat) (hc : c < 256) (hi : i < 100000) (hv : Iv ⟨st, S, fr, false, left, cnt, T⟩ i) :
    Calls Try.prog 42 #[.pointer (some ⟨K, 0, none⟩), .int .u8 (c : Nat), .int .i64 (i : Nat)] w (Does B K w0 (feed ⟨st, S, fr, false, left, cnt, T⟩ c i)) := by
  have c0 := h.c0
  have f0 := h.free 0
  have hm : MM B K w0 w ⟨st, S, fr, false, left, cnt, T⟩ := ⟨_, _, h⟩
  have hvS := hv.S
  have hvl := hv.l
  have hvf := hv.fr
  simp only at hvS hvl hvf
  have cn := number_ref st c w hv.s hc
  have ce := ends_any st w
  rw [hst] at ce
  have ca := atom_any hm i hvf (by omega) (by simp only; omega)
  have hT4 : (T ++ [(5, fr, i - fr)]).length ≤ 1000000 := by simp; omega
  have hS4 := hvS
  rcases hnb : numb st c with ⟨s', ok⟩
  rw [hnb] at cn
  cases ok with
  | true =>
    have e1 : Hid (feed ⟨st, S, fr, false, left, cnt, T⟩ c i = (0, ⟨s', S, fr, false, left, cnt, T⟩)) := by unfold Hid; simp [feed, hnb]
    have H6 := hidden (h.state s')
    clear h hm hv hnb ca ce hst
    replace cn : Calls Try.prog 67 #[.int .u8 (st : Nat), .int .u8 (c : Nat)] w fun e w' => e = .returned (.tuple #[.int .u8 (s' : Nat), .bool true]) ∧ w' = w := cn
    go_enter Try.func42, Try.ntmps42
    go_wp2_with fail
    refine cn.mono ?_
    rintro e w1 ⟨rfl, rfl⟩
    go_wp2_with fail
    go_ret
    rw [e1.out]
    exact ⟨rfl, _, _, H6.out⟩
  | false =>
    have eF : Hid (feed ⟨st, S, fr, false, left, cnt, T⟩ c i = feedA ⟨5, S, fr, false, left, cnt, T ++ [(5, fr, i - fr)]⟩ c i) := by unfold Hid; simp [feed, hnb, hst, atom]
    replace cn : Calls Try.prog 67 #[.int .u8 (st : Nat), .int .u8 (c : Nat)] w fun e w' => e = .returned (.tuple #[.int .u8 (s' : Nat), .bool false]) ∧ w' = w := cn
    replace ca : Calls Try.prog 44 #[.pointer (some ⟨K, 0, none⟩), .int .i64 (i : Nat)] w fun e w' => e = .returned (.tuple #[]) ∧ MM B K w0 w' ⟨5, S, fr, false, left, cnt, T ++ [(5, fr, i - fr)]⟩ := ca
    clear h hm hv hnb hst
    go_enter Try.func42, Try.ntmps42
    go_wp2_with fail
    refine cn.mono ?_
    rintro e w1 ⟨rfl, rfl⟩
    go_wp2_with fail
    refine ce.mono ?_
    rintro e w1 ⟨rfl, rfl⟩
    go_wp2_with fail
    refine ca.mono ?_
    rintro e w3 ⟨rfl, h3⟩
    clear ca ce cn c0 f0
    have HM := hidden h3
    obtain ⟨sv3, lv3, h3⟩ := h3
    have c0 := h3.c0
    have f0 := h3.free 0
    clear h3
    by_cases b32 : c = 32
    · have z32 : ((c : Int) == 32) = true := by simp; omega
      have e1 : Hid (feed ⟨st, S, fr, false, left, cnt, T⟩ c i = (0, ⟨5, S, fr, false, left, cnt, T ++ [(5, fr, i - fr)]⟩)) := by unfold Hid; rw [eF.out]; subst b32; simp [feedA, isB]
      clear b32  
      go_wp2_with fail
      go_ret
      rw [e1.out]
      exact ⟨rfl, HM.out⟩
    have z32 : ((c : Int) == 32) = false := by simp; omega
    by_cases b9 : c = 9
    · have z9 : ((c : Int) == 9) = true := by simp; omega
      have e1 : Hid (feed ⟨st, S, fr, false, left, cnt, T⟩ c i = (0, ⟨5, S, fr, false, left, cnt, T ++ [(5, fr, i - fr)]⟩)) := by unfold Hid; rw [eF.out]; subst b9; simp [feedA, isB]
      clear b9  b32
      go_wp2_with fail
      go_ret
      rw [e1.out]
      exact ⟨rfl, HM.out⟩
    have z9 : ((c : Int) == 9) = false := by simp; omega
    by_cases b10 : c = 10
    · have z10 : ((c : Int) == 10) = true := by simp; omega
      have e1 : Hid (feed ⟨st, S, fr, false, left, cnt, T⟩ c i = (0, ⟨5, S, fr, false, left, cnt, T ++ [(5, fr, i - fr)]⟩)) := by unfold Hid; rw [eF.out]; subst b10; simp [feedA, isB]
      clear b10  b32 b9
      go_wp2_with fail
      go_ret
      rw [e1.out]
      exact ⟨rfl, HM.out⟩
    have z10 : ((c : Int) == 10) = false := by simp; omega
    by_cases b13 : c = 13
    · have z13 : ((c : Int) == 13) = true := by simp; omega
      have e1 : Hid (feed ⟨st, S, fr, false, left, cnt, T⟩ c i = (0, ⟨5, S, fr, false, left, cnt, T ++ [(5, fr, i - fr)]⟩)) := by unfold Hid; rw [eF.out]; subst b13; simp [feedA, isB]
      clear b13  b32 b9 b10
      go_wp2_with fail
      go_ret
      rw [e1.out]
      exact ⟨rfl, HM.out⟩
    have z13 : ((c : Int) == 13) = false := by simp; omega
    have hB : isB c = false := by simp [isB, b32, b9, b10, b13]
    clear b32 b9 b10 b13
    have e1 : Hid (feed ⟨st, S, fr, false, left, cnt, T⟩ c i = next ⟨5, S, fr, false, left, cnt, T ++ [(5, fr, i - fr)]⟩ c i) := by unfold Hid; rw [eF.out]; simp [feedA, hB]
    have cl := next_any HM.out c i hS4 hT4
    generalize next ⟨5, S, fr, false, left, cnt, T ++ [(5, fr, i - fr)]⟩ c i = p at *
    clear hB
    go_wp2_with fail
    refine cl.mono ?_
    rintro e w4 ⟨rfl, h4⟩
    have H4 := hidden h4
    clear cl h4
    go_wp2_with fail
    go_ret
    rw [e1.out]
    exact ⟨rfl, H4.out⟩
end
end Go.Proofs.PlatenJson

/- What the document's Read comes to. -/
namespace Go.Proofs.PlatenJson
open Go Go.RowKit
set_option linter.unusedVariables false
set_option maxRecDepth 100000
section
variable {B K : Nat} {w0 w : World}
theorem feed_any {M : Mc} (h : MM B K w0 w M) (c i : Nat) (hc : c < 256) (hi : i < 100000) (hv : Iv M i) :
    Calls Try.prog 42 #[.pointer (some ⟨K, 0, none⟩), .int .u8 (c : Nat), .int .i64 (i : Nat)] w (Does B K w0 (feed M c i)) := by
  obtain ⟨sv, lv, h⟩ := h
  obtain ⟨st, S, fr, nm, left, cnt, T⟩ := M
  simp only at h
  have hs : st ≤ 17 := hv.s
  have hE : ends st = true → Calls Try.prog 42 #[.pointer (some ⟨K, 0, none⟩), .int .u8 (c : Nat), .int .i64 (i : Nat)] w (Does B K w0 (feed ⟨st, S, fr, nm, left, cnt, T⟩ c i)) := fun he => by
    cases nm with
    | true => exact feedE4 h he c i hc hi hv
    | false => exact feedE5 h he c i hc hi hv
  match st, hs, h, hv, hE with
  | 0, _, h, hv, _ => exact feed0 h c i hc hi hv
  | 1, _, h, hv, _ => exact feed1 h c i hc hi hv
  | 2, _, h, hv, _ => exact feed2 h c i hc hi hv
  | 3, _, h, hv, _ => exact feed3 h c i hc hi hv
  | 4, _, h, hv, _ => exact feed4 h c i hc hi hv
  | 5, _, h, hv, _ => exact feed5 h c i hc hi hv
  | 6, _, h, hv, _ => exact feed6 h c i hc hi hv
  | 7, _, h, hv, _ => exact feed7 h c i hc hi hv
  | 8, _, h, hv, _ => exact feed8 h c i hc hi hv
  | 9, _, h, hv, _ => exact feed9 h c i hc hi hv
  | 10, _, _, _, hE => exact hE rfl
  | 11, _, _, _, hE => exact hE rfl
  | 12, _, h, hv, _ => exact feed12 h c i hc hi hv
  | 13, _, _, _, hE => exact hE rfl
  | 14, _, h, hv, _ => exact feed14 h c i hc hi hv
  | 15, _, h, hv, _ => exact feed15 h c i hc hi hv
  | 16, _, _, _, hE => exact hE rfl
  | 17, _, h, hv, _ => exact feed17 h c i hc hi hv
  | n + 18, hs, _, _, _ => exact absurd hs (by omega)

/-! The machine stays what it is. -/
structure Iw (M : Mc) (i : Nat) : Prop where
  s : M.st ≤ 17
  S : M.stack.length ≤ 512
  fr : M.fr ≤ i
  l : M.l.length ≤ 2 * i + 1
  h : M.st = 8 → 1 ≤ M.cnt ∧ M.cnt ≤ 4
  w : M.st = 17 → ∃ b r, M.left = b :: r ∧ ∀ x ∈ M.left, x < 256
theorem next_iv {M : Mc} {c i : Nat} (h : Iw M i) (h0 : (next M c i).1 = 0) : Iv (next M c i).2 (i + 1) := by
  obtain ⟨st, S, fr, nm, left, cnt, T⟩ := M
  have hS := h.S
  have hf := h.fr
  have hl := h.l
  simp only at hS hf hl
  unfold next at h0 ⊢
  cases S with
  | nil => simp at h0
  | cons b S =>
    simp only [List.length_cons] at hS
    simp only at h0 ⊢
    split at h0
    · rename_i q; rw [if_pos q]
      exact ⟨by simp [one], by simp [one]; omega, by simp [one]; omega, by simp [one]; omega, by simp [one], by simp [one]⟩
    · rename_i q; rw [if_neg q]
      split at h0
      · rename_i q; rw [if_pos q]
        exact ⟨by simp [one], by simp [one]; omega, by simp [one]; omega, by simp [one]; omega, by simp [one], by simp [one]⟩
      · rename_i q; rw [if_neg q]
        split at h0
        · rename_i q; rw [if_pos q]
          exact ⟨by simp [one], by simp [one]; omega, by simp [one]; omega, by simp [one]; omega, by simp [one], by simp [one]⟩
        · simp at h0
theorem begin_iv {M : Mc} {c i : Nat} (hc : c < 256) (h : Iw M i) (h0 : (begin' M c i).1 = 0) : Iv (begin' M c i).2 (i + 1) := by
  obtain ⟨st, S, fr, nm, left, cnt, T⟩ := M
  have hS := h.S
  have hf := h.fr
  have hl := h.l
  simp only at hS hf hl
  unfold begin' at h0 ⊢
  simp only at h0 ⊢
  split at h0
  · rename_i q; rw [if_pos q]
    split at h0
    · simp at h0
    · rename_i q; rw [if_neg q]
      refine ⟨?_, by simp; omega, by simp, by simp; omega, ?_, ?_⟩
      · simp only; split <;> omega
      · simp only; split <;> (intro e; cases e)
      · simp only; split <;> (intro e; cases e)
  · rename_i q; rw [if_neg q]
    split at h0
    · rename_i q; rw [if_pos q]
      exact ⟨by simp, by simpa using hS, by simp, by simp; omega, by simp, by simp⟩
    rename_i q; rw [if_neg q]
    split at h0
    · rename_i q; rw [if_pos q]
      exact ⟨by simp, by simpa using hS, by simp, by simp; omega, by simp, by simp⟩
    rename_i q; rw [if_neg q]
    split at h0
    · rename_i q; rw [if_pos q]
      exact ⟨by simp, by simpa using hS, by simp, by simp; omega, by simp, by simp⟩
    rename_i q; rw [if_neg q]
    split at h0
    · rename_i q; rw [if_pos q]
      exact ⟨by simp, by simpa using hS, by simp, by simp; omega, by simp, by simp⟩
    rename_i q; rw [if_neg q]
    split at h0
    · rename_i q; rw [if_pos q]
      exact ⟨by simp, by simpa using hS, by simp, by simp; omega, by simp, fun _ => ⟨_, _, rfl, by simp⟩⟩
    rename_i q; rw [if_neg q]
    split at h0
    · rename_i q; rw [if_pos q]
      exact ⟨by simp, by simpa using hS, by simp, by simp; omega, by simp, fun _ => ⟨_, _, rfl, by simp⟩⟩
    rename_i q; rw [if_neg q]
    split at h0
    · rename_i q; rw [if_pos q]
      exact ⟨by simp, by simpa using hS, by simp, by simp; omega, by simp, fun _ => ⟨_, _, rfl, by simp⟩⟩
    · simp at h0
theorem atom_iw {M : Mc} {i : Nat} (h : Iv M i) : Iw (atom M i) i := by
  obtain ⟨st, S, fr, nm, left, cnt, T⟩ := M
  have hS := h.S
  have hf := h.fr
  have hl := h.l
  simp only at hS hf hl
  refine ⟨?_, hS, hf, by simp [atom]; omega, ?_, ?_⟩ <;> cases nm <;> simp [atom]
theorem Iv.iw {M : Mc} {i : Nat} (h : Iv M i) : Iw M i := ⟨h.s, h.S, h.fr, by have := h.l; omega, h.h, h.w⟩
theorem inside_iv {M : Mc} {c i : Nat} (hs : M.st = 6 ∨ M.st = 7 ∨ M.st = 8 ∨ M.st = 17) (h : Iw M i) (h0 : (inside M c i).1 = 0) : Iv (inside M c i).2 (i + 1) := by
  obtain ⟨st, S, fr, nm, left, cnt, T⟩ := M
  have hS := h.S
  have hf := h.fr
  have hl := h.l
  have hc8 := h.h
  have hw := h.w
  simp only at hs hS hf hl hc8 hw
  rcases hs with rfl | rfl | rfl | rfl
  · unfold inside at h0 ⊢
    simp only [if_true] at h0 ⊢
    split at h0
    · simp at h0
    rename_i q; rw [if_neg q]
    split at h0
    · rename_i q; rw [if_pos q]
      refine ⟨?_, hS, by simp [atom]; omega, by simp [atom]; omega, ?_, ?_⟩ <;> cases nm <;> simp [atom]
    rename_i q; rw [if_neg q]
    split at h0
    · rename_i q; rw [if_pos q]
      exact ⟨by simp, hS, by simp; omega, by simp; omega, by simp, by simp⟩
    rename_i q; rw [if_neg q]
    exact ⟨by simp, hS, by simp; omega, by simp; omega, by simp, by simp⟩
  · unfold inside at h0 ⊢
    simp only [if_true, if_neg (show ¬ (7 : Nat) = 6 by decide)] at h0 ⊢
    split at h0
    · rename_i q; rw [if_pos q]
      exact ⟨by simp, hS, by simp; omega, by simp; omega, by simp, by simp⟩
    rename_i q; rw [if_neg q]
    split at h0
    · rename_i q; rw [if_pos q]
      exact ⟨by simp, hS, by simp; omega, by simp; omega, by simp, by simp⟩
    · simp at h0
  · unfold inside at h0 ⊢
    simp only [if_true, if_neg (show ¬ (8 : Nat) = 6 by decide), if_neg (show ¬ (8 : Nat) = 7 by decide)] at h0 ⊢
    split at h0
    · rename_i q; rw [if_pos q]
      have := hc8 rfl
      refine ⟨?_, hS, by simp; omega, by simp; omega, ?_, ?_⟩
      · simp only; split <;> omega
      · simp only; split <;> (intro e; first | (cases e; done) | omega)
      · simp only; split <;> (intro e; cases e)
    · simp at h0
  · obtain ⟨b, r, hlr, hx⟩ := hw rfl
    subst hlr
    unfold inside at h0 ⊢
    simp only [if_neg (show ¬ (17 : Nat) = 6 by decide), if_neg (show ¬ (17 : Nat) = 7 by decide), if_neg (show ¬ (17 : Nat) = 8 by decide)] at h0 ⊢
    split at h0
    · simp at h0
    rename_i q; rw [if_neg q]
    split at h0
    · rename_i q; rw [if_pos q]
      refine ⟨?_, hS, by simp [atom]; omega, by simp [atom]; omega, ?_, ?_⟩ <;> cases nm <;> simp [atom]
    rename_i q; rw [if_neg q]
    refine ⟨by simp, hS, by simp; omega, by simp; omega, by simp, fun _ => ?_⟩
    cases r with
    | nil => exact absurd rfl q
    | cons a r => exact ⟨a, r, rfl, fun x hx' => hx x (List.mem_cons_of_mem _ hx')⟩
theorem numb_st (s c : Nat) : (numb s c).2 = true → (numb s c).1 ≤ 16 ∧ (numb s c).1 ≠ 8 := by
  intro h
  unfold numb at h ⊢
  repeat' split
  all_goals first | (simp; done) | (simp_all; done)
theorem feed_iv {M : Mc} {c i : Nat} (hc : c < 256) (h : Iv M i) (h0 : (feed M c i).1 = 0) : Iv (feed M c i).2 (i + 1) := by
  unfold feed at h0 ⊢
  by_cases hn : (numb M.st c).2 = true
  · rw [if_pos hn]
    obtain ⟨a, b⟩ := numb_st M.st c hn
    exact ⟨by simp only; omega, h.S, by have := h.fr; simp only; omega, by have := h.l; simp only; omega, fun e => absurd e b, fun e => by simp only at e; omega⟩
  · rw [if_neg hn] at h0 ⊢
    have hw : Iw (if ends M.st then atom M i else M) i := by
      split
      · exact atom_iw h
      · exact h.iw
    generalize (if ends M.st then atom M i else M) = M1 at *
    unfold feedA at h0 ⊢
    by_cases q1 : M1.st = 6 ∨ M1.st = 7 ∨ M1.st = 8 ∨ M1.st = 17
    · rw [if_pos q1] at h0 ⊢; exact inside_iv q1 hw h0
    rw [if_neg q1] at h0 ⊢
    split at h0
    · simp at h0
    rename_i q2; rw [if_neg q2]
    have hup : Iv M1 (i + 1) := ⟨hw.s, hw.S, by have := hw.fr; omega, by have := hw.l; omega, hw.h, hw.w⟩
    split at h0
    · rename_i q3; rw [if_pos q3]; exact hup
    rename_i q3; rw [if_neg q3]
    split at h0
    · rename_i q4; rw [if_pos q4]; exact begin_iv hc hw h0
    rename_i q4; rw [if_neg q4]
    split at h0
    · rename_i q5; rw [if_pos q5]
      split at h0
      · rename_i q6; rw [if_pos q6]; exact next_iv hw h0
      · rename_i q6; rw [if_neg q6]; exact begin_iv hc hw h0
    rename_i q5; rw [if_neg q5]
    split at h0
    · rename_i q6; rw [if_pos q6]
      split at h0
      · rename_i q7; rw [if_pos q7]; exact next_iv hw h0
      rename_i q7; rw [if_neg q7]
      split at h0
      · simp at h0
      rename_i q8; rw [if_neg q8]
      exact ⟨by simp, hw.S, by simp, by have := hw.l; simp only; omega, by simp, by simp⟩
    rename_i q6; rw [if_neg q6]
    split at h0
    · rename_i q7; rw [if_pos q7]
      split at h0
      · simp at h0
      rename_i q8; rw [if_neg q8]
      have := hw.l
      have := hw.fr
      exact ⟨by simp [one], hw.S, by simp only [one]; omega, by simp [one]; omega, by simp [one], by simp [one]⟩
    rename_i q7; rw [if_neg q7]
    exact next_iv hw h0
end
end Go.Proofs.PlatenJson

/- What the document's Read, and Same, come to. -/
namespace Go.Proofs.PlatenJson
open Go Go.RowKit
set_option linter.unusedVariables false
set_option maxRecDepth 100000

theorem iv0 : Iv M0 0 := ⟨by decide, by decide, by decide, by decide, fun e => absurd e (by decide), fun e => absurd e (by decide)⟩
theorem strOf_nil : strOf [] = ⟨#[]⟩ := rfl
set_option maxHeartbeats 8000000 in
theorem rread_any (v : Value) (n : Nat) (f : Nat → Nat) (w : World) (hf : ∀ j, f j < 256) (hn : n ≤ 100000) (h : Row w v n f) :
    Calls Try.prog 25 #[v] w (RdP w (ans f n)) := by
  have HR := hidden h
  obtain ⟨a, cap, rfl, _⟩ := h
  have Hf := hidden hf
  have Ho : Hid (ans f n = out f n M0 0) := rfl
  generalize ans f n = o at *
  clear hf
  have H0 : Hid (MM w.heap.size w.heap.size w (w.alloc (.cells #[.int .u8 0, .slice none 0 0, .int .i64 0, .bool false, .string ⟨#[]⟩, .int .i64 0, .slice none 0 0] 78)) M0) :=
    ⟨_, _, Nat.le_refl _, by simp, heap_alloc_new _ _, World.ownsRow_nil _ _ _ _, World.ownsRow_nil _ _ _ _, (Below.refl _ _).alloc (Nat.le_refl _) _⟩
  go_enter Try.func25, Try.ntmps25
  go_wp2_with fail
  generalize w.alloc (.cells #[.int .u8 0, .slice none 0 0, .int .i64 0, .bool false, .string ⟨#[]⟩, .int .i64 0, .slice none 0 0] 78) = wa at *
  go_loopw [6, 7] (fun i e wr => ∃ (k : Nat) (M : Mc), k ≤ n ∧ i = .int .i64 (k : Nat) ∧ MM w.heap.size w.heap.size w wr M ∧ Iv M k ∧ o = out f n M k) (fun i _ _ => n - (intOf i).toNat)
  case atStart => exact ⟨0, M0, Nat.zero_le _, rfl, H0.out, iv0, Ho.out⟩
  case round =>
    obtain ⟨k, M, hk, rfl, hm, hv, ho⟩ := hrel
    clear H0 Ho
    by_cases hlt : k < n
    · have hlz : (k : Int) < (n : Int) := by omega
      obtain ⟨a', cap', hva, hrow⟩ := HR.out
      injection hva with e1 e2 e3
      subst e1 e3
      obtain ⟨b, off, rfl, hcap, hc⟩ := hrow (by omega)
      have g0 := hc k hlt
      have hbel := hm.choose_spec.choose_spec.bel
      rw [← hbel.cell (p := ⟨b, off + k, none⟩) (World.block_lt_of_cell? _ _ g0)] at g0
      have cf := feed_any hm (f k) k (Hf.out k) (by omega) hv
      have Hv := hidden hv
      have HO := hidden ho
      clear hc hrow hbel hv ho e2 hm
      have Hfeed : Hid (feed M (f k) k = feed M (f k) k) := rfl
      cases hx : (feed M (f k) k).1 with
      | zero =>
        have Hout := hidden (HO.out.trans (out_ok (M' := (feed M (f k) k).2) hlt (by rw [← hx])))
        have Hv2 := hidden (feed_iv (Hf.out k) Hv.out hx)
        unfold Does at cf
        rw [hx] at cf
        generalize (feed M (f k) k).2 = M' at *
        clear hx Hfeed
        generalize f k = c at *
        go_wp2_with fail
        refine cf.mono ?_
        rintro e w2 ⟨rfl, h2⟩
        have H2 := hidden h2
        clear cf h2
        go_wp2_with fail
        go_roundw
        case rel => exact ⟨k + 1, M', by omega, by go_num, H2.out, Hv2.out, Hout.out⟩
        case measure => simp [intOf]; omega
      | succ x =>
        have Hout := hidden (HO.out.trans (out_no (M' := (feed M (f k) k).2) (x := x + 1) hlt (by rw [← hx]) (by omega)))
        unfold Does at cf
        rw [hx] at cf
        have hxz : (((x + 1 : Nat) : Int) != 0) = true := by rw [bne_iff_ne]; omega
        generalize (feed M (f k) k).2 = M' at *
        clear hx Hfeed
        generalize f k = c at *
        generalize x + 1 = x' at *
        go_wp2_with fail
        refine cf.mono ?_
        rintro e w2 ⟨rfl, sv, lv, h2⟩
        have H2 := hidden h2
        clear cf h2
        go_wp2_with fail
        go_ret3
        rw [Hout.out]
        exact ⟨_, rfl, isTk_nil _, H2.out.bel⟩
    · obtain rfl : k = n := by omega
      have hlz : ¬ ((k : Int) < (k : Int)) := by omega
      have HO : Hid (o = fin' M k) := by rw [out_end] at ho; exact ho
      have hS := hv.S
      have hl := hv.l
      have hfr := hv.fr
      have ce := ends_any M.st wr
      have ca := atom_any hm k hfr (by omega) (by omega)
      obtain ⟨sv, lv, h⟩ := hm
      have c0 := h.c0
      clear ho
      unfold fin' at HO
      cases he : ends M.st with
      | true =>
        rw [he] at ce
        rw [he, if_pos rfl] at HO
        have H1 := hidden h
        clear h hv he
        have hS2 : (atom M k).stack.length ≤ 512 := hS
        generalize atom M k = M2 at *
        go_wp2_with fail
        refine ce.mono ?_
        rintro e w2 ⟨rfl, rfl⟩
        go_wp2_with fail
        refine ca.mono ?_
        rintro e w2 ⟨rfl, sv2, lv2, h2⟩
        clear ca ce c0
        have c0 := h2.c0
        have c1 := h2.c1
        have c6 := h2.c6
        obtain ⟨va, vc, hsv⟩ := row_slice h2.srow
        rw [hsv] at c1
        have H2 := hidden h2
        clear h2 hsv
        by_cases q : M2.st = 5
        · have z5 : ((M2.st : Int) != 5) = false := by simp; omega
          by_cases q2 : M2.stack.length = 0
          · have zl : ¬ ((0 : Int) < (M2.stack.length : Int)) := by omega
            have HF : Hid (o = (M2.l, 0, 0)) := by
              unfold Hid; rw [HO.out]; unfold finA
              rw [if_neg (by intro e; rcases e with e | e; exact e q; exact e (List.eq_nil_of_length_eq_zero q2))]
            clear HO q q2
            generalize M2.stack.length = m at *
            generalize M2.st = s2 at *
            go_wp2_with fail
            go_ret3
            rw [HF.out]
            exact ⟨_, rfl, isTk_of H2.out.lrow, H2.out.bel⟩
          · have zl : (0 : Int) < (M2.stack.length : Int) := by omega
            have HF : Hid (o = ([], k, 5)) := by
              unfold Hid; rw [HO.out]; unfold finA
              rw [if_pos (Or.inr (fun e => q2 (by rw [e]; rfl)))]
            clear HO q q2
            generalize M2.stack.length = m at *
            generalize M2.st = s2 at *
            go_wp2_with fail
            go_ret3
            rw [HF.out]
            exact ⟨_, rfl, isTk_nil _, H2.out.bel⟩
        · have z5 : ((M2.st : Int) != 5) = true := by rw [bne_iff_ne]; omega
          have HF : Hid (o = ([], k, 5)) := by
            unfold Hid; rw [HO.out]; unfold finA
            rw [if_pos (Or.inl q)]
          clear HO q
          generalize M2.stack.length = m at *
          generalize M2.st = s2 at *
          go_wp2_with fail
          go_ret3
          rw [HF.out]
          exact ⟨_, rfl, isTk_nil _, H2.out.bel⟩
      | false =>
        rw [he] at ce
        rw [he, if_neg (by decide)] at HO
        clear hv he ca c0
        have h2 := h
        have c0 := h2.c0
        clear h
        generalize M = M2 at *
        go_wp2_with fail
        refine ce.mono ?_
        rintro e w2 ⟨rfl, rfl⟩
        clear ce c0
        have c0 := h2.c0
        have c1 := h2.c1
        have c6 := h2.c6
        obtain ⟨va, vc, hsv⟩ := row_slice h2.srow
        rw [hsv] at c1
        have H2 := hidden h2
        clear h2 hsv
        by_cases q : M2.st = 5
        · have z5 : ((M2.st : Int) != 5) = false := by simp; omega
          by_cases q2 : M2.stack.length = 0
          · have zl : ¬ ((0 : Int) < (M2.stack.length : Int)) := by omega
            have HF : Hid (o = (M2.l, 0, 0)) := by
              unfold Hid; rw [HO.out]; unfold finA
              rw [if_neg (by intro e; rcases e with e | e; exact e q; exact e (List.eq_nil_of_length_eq_zero q2))]
            clear HO q q2
            generalize M2.stack.length = m at *
            generalize M2.st = s2 at *
            go_wp2_with fail
            go_ret3
            rw [HF.out]
            exact ⟨_, rfl, isTk_of H2.out.lrow, H2.out.bel⟩
          · have zl : (0 : Int) < (M2.stack.length : Int) := by omega
            have HF : Hid (o = ([], k, 5)) := by
              unfold Hid; rw [HO.out]; unfold finA
              rw [if_pos (Or.inr (fun e => q2 (by rw [e]; rfl)))]
            clear HO q q2
            generalize M2.stack.length = m at *
            generalize M2.st = s2 at *
            go_wp2_with fail
            go_ret3
            rw [HF.out]
            exact ⟨_, rfl, isTk_nil _, H2.out.bel⟩
        · have z5 : ((M2.st : Int) != 5) = true := by rw [bne_iff_ne]; omega
          have HF : Hid (o = ([], k, 5)) := by
            unfold Hid; rw [HO.out]; unfold finA
            rw [if_pos (Or.inl q)]
          clear HO q
          generalize M2.stack.length = m at *
          generalize M2.st = s2 at *
          go_wp2_with fail
          go_ret3
          rw [HF.out]
          exact ⟨_, rfl, isTk_nil _, H2.out.bel⟩
end Go.Proofs.PlatenJson
