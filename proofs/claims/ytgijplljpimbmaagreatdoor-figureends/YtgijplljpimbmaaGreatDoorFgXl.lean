/- What FigureSigns comes to. -/
import Derived.Test.YtgijplljpimbmaaGreatDoorFgXk
namespace Go.Proofs.PlatenFigure
open Go.RowKit
set_option linter.unusedVariables false
set_option linter.unusedSimpArgs false
set_option maxRecDepth 20000

theorem num_last {l : List UInt8} {i0 pm pe : Nat} {neg eneg : Bool} (h : Num l i0 pm pe neg eneg) : (l.getD (l.length - 1) 0).toNat ≠ 110 := by
  have h1 := h.lt
  have h2 := h.le
  rcases h.tail with ⟨h3, _⟩ | ⟨h3, h4, _, h5, _⟩
  · have := h.ms (l.length - 1) (by omega) (by omega)
    simp only [mc, decide_eq_true_eq] at this
    omega
  · have := h5 (l.length - 1) (by omega) (by omega)
    simp only [dg, decide_eq_true_eq] at this
    omega
theorem ris_nm {l : List UInt8} (h : Nm (l.drop (sg1 l))) : ris l = true := by
  unfold ris
  rw [(rnum_iff _).2 h]
  simp
theorem sT_pm (n a : Nat) (p : Int) (hn : n < 4294967296) (ha : a < 65536) (h1 : -128 ≤ p) (h2 : p ≤ 127) {pm pe : Nat} {neg eneg : Bool} (h : Num (sT n a p) 0 pm pe neg eneg) : pm ≤ 19 := by
  obtain ⟨l1, l2, l3⟩ := sT_len n a p hn ha h1 h2
  rcases Nat.lt_or_ge ((Lib.decDigits n).length + ((46 :: Lib.decDigits a).length + 0)) pm with q | q
  · have := h.ms _ (Nat.zero_le _) q
    unfold sT at this
    rw [getD_right, getD_right] at this
    exact absurd this (by simp [mc])
  · simp at q
    omega
/-- The numbers that the three texts are. -/
theorem signs_pf (s : ByteArray) (n a : Nat) (p : Int) (hs : L s = sT n a p) (hn : n < 4294967296) (ha : a < 65536) (h1 : -128 ≤ p) (h2 : p ≤ 127) :
    ∃ x y, x < 18446744073709551616 ∧ y < 18446744073709551616 ∧ x ^^^ y = 9223372036854775808 ∧ (ris (L s) = true ∧ rval s x) ∧ (ris (L (⟨#[45]⟩ ++ s)) = true ∧ rval (⟨#[45]⟩ ++ s) y) ∧ (ris (L (⟨#[43]⟩ ++ s)) = true ∧ rval (⟨#[43]⟩ ++ s) x) ∧ s.size ≤ 30 := by
  have hl := (sT_len n a p hn ha h1 h2).2.2
  have hsz : s.size ≤ 30 := by rw [← len_L, hs]; exact hl
  have hnm : Nm ((sT n a p).drop (sg1 (sT n a p))) := by rw [sT_sg]; exact sT_nm n a p
  obtain ⟨pm, pe, neg, eneg, hN⟩ := num_of _ hnm
  rw [sT_sg] at hN
  have hneg : neg = false := by
    rcases hN.sg with ⟨_, h, _⟩ | ⟨h, _⟩
    · exact h
    · cases h
  subst hneg
  have hpm := sT_pm n a p hn ha h1 h2 hN
  have htr : (rdM (sT n a p) 0 pm).tr = false := (tr_no _ 0 (pm - 0) (by omega)).1
  obtain ⟨x, b, y, c, hx, hy, hxy⟩ := at_sign (rdM (sT n a p) 0 pm).m (rdP (sT n a p) 0 pm pe eneg) (rd_small hN)
  have lx := at_lt _ _ _ _ _ _ (rd_small hN) hx
  have ly := at_lt _ _ _ _ _ _ (rd_small hN) hy
  have hLm : L (⟨#[45]⟩ ++ s) = 45 :: sT n a p := by rw [L_app, hs]; rfl
  have hLp : L (⟨#[43]⟩ ++ s) = 43 :: sT n a p := by rw [L_app, hs]; rfl
  have zm : (⟨#[45]⟩ ++ s : ByteArray).size ≤ 100 := by rw [ByteArray.size_append]; show 1 + s.size ≤ 100; omega
  have zp : (⟨#[43]⟩ ++ s : ByteArray).size ≤ 100 := by rw [ByteArray.size_append]; show 1 + s.size ≤ 100; omega
  obtain ⟨nm, em, epm⟩ := num_cons hN 45 true (Or.inr ⟨rfl, rfl⟩)
  obtain ⟨np, ep, epp⟩ := num_cons hN 43 false (Or.inl ⟨rfl, rfl⟩)
  refine ⟨x, y, lx, ly, hxy, ⟨?_, Or.inr ⟨?_, ?_⟩⟩, ⟨?_, Or.inr ⟨?_, ?_⟩⟩, ⟨?_, Or.inr ⟨?_, ?_⟩⟩, hsz⟩
  · rw [hs]; exact ris_nm hnm
  · rw [hs]; exact num_last hN
  · exact pf_num s 0 pm pe false eneg (by omega) (by rw [hs]; exact hN) x b (by rw [hs, htr]; exact hx)
  · rw [hLm]
    refine ris_nm ?_
    rw [show sg1 (45 :: sT n a p) = 1 by rw [sg1_cons]; rfl]
    exact sT_nm n a p
  · rw [hLm]; exact num_last nm
  · exact pf_num _ 1 (pm + 1) (pe + 1) true eneg zm (by rw [hLm]; exact nm) y c (by rw [hLm, em, epm, htr]; exact hy)
  · rw [hLp]
    refine ris_nm ?_
    rw [show sg1 (43 :: sT n a p) = 1 by rw [sg1_cons]; rfl]
    exact sT_nm n a p
  · rw [hLp]; exact num_last np
  · exact pf_num _ 1 (pm + 1) (pe + 1) false eneg zp (by rw [hLp]; exact np) x b (by rw [hLp, ep, epp, htr]; exact hx)
theorem below_grow {w : World} (k : Nat) (os : Array Obj) : Below w.heap.size w (Go.Sort.grow (w.drewN k) os) := by
  refine ⟨rfl, rfl, rfl, ?_, fun j hj => ?_⟩
  · simp
  · exact Go.Sort.heap_grow_old (w.drewN k) os hj
theorem bits_xor_nat (x y : Nat) (hx : x < 18446744073709551616) (hy : y < 18446744073709551616) : bits .xor .u64 x y = ((x ^^^ y : Nat) : Int) := by
  have h : x ^^^ y < 2 ^ 64 := Nat.xor_lt_two_pow (n := 64) hx hy
  show IntKind.u64.wrap ((BitVec.ofInt 64 (x : Int) ^^^ BitVec.ofInt 64 (y : Int)).toNat : Int) = _
  rw [BitVec.ofInt_natCast, BitVec.ofInt_natCast, BitVec.toNat_xor, BitVec.toNat_ofNat, BitVec.toNat_ofNat, Nat.mod_eq_of_lt hx, Nat.mod_eq_of_lt hy, IntKind.wrap_u64]
  omega
end Go.Proofs.PlatenFigure
