/- What strconv.setDigits comes to: a number's digits in a buffer, and how many there are without the noughts at the end. -/
import Derived.Test.YtgijplljpimbmaaGreatDoorFgH
namespace Go.Proofs.PlatenFigure
open Go.RowKit Go.Shelf Go.Lib
set_option linter.unusedVariables false

/-- The digit at place k, of nd places. -/
def dgt (d nd k : Nat) : Nat := 48 + d / 10 ^ (nd - 1 - k) % 10
/-- How many places there are without the noughts at the end. -/
def nzf (d nd : Nat) : Nat → Nat
  | 0 => 0
  | k + 1 => if dgt d nd k = 48 then nzf d nd k else k + 1
/-- All but block B as it was. -/
structure But (B : Nat) (w w' : World) : Prop where
  os : w'.os = w.os
  tape : w'.tape = w.tape
  output : w'.output = w.output
  size : w'.heap.size = w.heap.size
  block : ∀ k, k ≠ B → w'.heap[k]? = w.heap[k]?
theorem dgt_lt (d nd k : Nat) : dgt d nd k < 256 := by unfold dgt; omega
theorem dg_dgt (d nd k : Nat) : ((Lib.dg d (nd - 1 - k)).toNat : Int) = (dgt d nd k : Nat) := by
  unfold Lib.dg dgt
  have : d / 10 ^ (nd - 1 - k) % 10 < 10 := Nat.mod_lt _ (by decide)
  generalize d / 10 ^ (nd - 1 - k) % 10 = x at *
  rw [UInt8.toNat_ofNat']
  omega

set_option maxRecDepth 20000 in
set_option maxHeartbeats 4000000 in
theorem setd_any (B d nd : Nat) (p : Int) (w : World) (h1 : 1 ≤ nd) (h2 : nd ≤ 20) (hd : d < 10 ^ nd) (hd2 : d < 18446744073709551616) (hp : -1000 ≤ p) (hp2 : p ≤ 1000)
    (hz : ∀ j, j < 32 → w.cell? ⟨B, j, none⟩ = some (.int .u8 0) ∧ w.frozen? ⟨B, j, none⟩ = false) :
    Calls Tryz.prog 78 #[.slice (some ⟨B, 0, none⟩) 32 32, .int .u64 d, .int .i64 p, .int .i64 nd] w fun e w' =>
      e = .returned (.tuple #[.int .i64 (nd + p), .int .i64 (nzf d nd nd : Nat)]) ∧ (∀ j, j < nd → w'.cell? ⟨B, j, none⟩ = some (.int .u8 (dgt d nd j : Nat))) ∧ But B w w' := by
  have hH : «Sort».Holds (fun (b : UInt8) => Value.int .u8 (b.toNat : Int)) w B 0 (Array.replicate nd (0 : UInt8)) := by
    intro j hj
    rw [Array.size_replicate] at hj
    have := hz j (by omega)
    rw [Nat.zero_add, getElem!_pos _ j (by simpa using hj)]
    simpa using this
  have c1 := Tryz.internal_strconv_formatBase10 B 0 32 d (Array.replicate nd (0 : UInt8)) w hH (by simpa using hd) hd2 (by simp; omega)
  rw [Array.size_replicate] at c1
  clear hz hd
  have HH := hidden hH
  clear hH
  go_enter Tryz.func78, Tryz.ntmps78
  go_wp2_with fail
  refine c1.mono ?_
  rintro e w1 ⟨rfl, n, v', dk, hw1, hI⟩
  have hsz := hI.size
  have hC : ∀ j, j < nd → w1.cell? ⟨B, j, none⟩ = some (.int .u8 (dgt d nd j : Nat)) := by
    intro j hj
    have := «Sort».cell?_putRow (fun (b : UInt8) => Value.int .u8 (b.toNat : Int)) w B 0 (Array.replicate nd (0 : UInt8)) dk HH.out (by rw [hsz, Array.size_replicate]) j (by omega)
    rw [hI.done j (Nat.zero_le _) hj, dg_dgt, Nat.zero_add] at this
    rw [hw1]
    exact this
  have hB : But B w w1 := by
    rw [hw1]
    refine ⟨rfl, rfl, rfl, «Sort».size_putRow _ _ _ _ _, fun k hk => ?_⟩
    show («Sort».putRow _ w B 0 dk).heap[k]? = _
    unfold «Sort».putRow
    show (w.heap.modify B _)[k]? = _
    rw [Array.getElem?_modify, if_neg (Ne.symm hk)]
  have HB := hidden hB
  clear hw1 hI hB c1 HH hsz
  go_wp2_with fail
  go_loop [3] (fun i => ∃ k : Nat, k ≤ nd ∧ i = .int .i64 k ∧ Hid (nzf d nd k = nzf d nd nd)) (fun i => (RowKit.intOf i).toNat)
  case atStart => exact ⟨nd, Nat.le_refl _, rfl, rfl⟩
  case round =>
  obtain ⟨k, hk, rfl, hnz⟩ := hrel
  by_cases h0 : k = 0
  · subst h0
    have HZ : Hid (nzf d nd nd = 0) := hnz.out.symm
    clear hnz
    go_wp2
    go_ret2
    exact ⟨by rw [HZ.out]; rfl, fun j hj => hC j hj, HB.out⟩
  · obtain ⟨q, rfl⟩ : ∃ q, k = q + 1 := ⟨k - 1, by omega⟩
    have hcq := hC q (by omega)
    have hu := hnz.out
    rw [show nzf d nd (q + 1) = if dgt d nd q = 48 then nzf d nd q else q + 1 from rfl] at hu
    have e1 : ((q + 1 : Nat) : Int) = (q : Int) + 1 := by omega
    rw [e1]
    clear e1 hnz h0
    by_cases h48 : dgt d nd q = 48
    · rw [if_pos h48] at hu
      rw [h48] at hcq
      have HU := hidden hu
      clear hu h48
      go_wp2
      go_round
      case rel => exact ⟨q, by omega, rfl, HU.out⟩
      case measure => simp [RowKit.intOf]
    · rw [if_neg h48] at hu
      have HU := hidden hu
      have hlt := dgt_lt d nd q
      clear hu
      have h49 : ¬ ((dgt d nd q : Nat) : Int) = 48 := by omega
      have h50 : (((dgt d nd q : Nat) : Int) == 48) = false := by simpa using h49
      clear h48
      go_wp2
      go_ret2
      exact ⟨by rw [← HU.out]; rfl, fun j hj => hC j hj, HB.out⟩
end Go.Proofs.PlatenFigure
