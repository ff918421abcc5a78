/- A number's text with a sign ahead is read alike; texts made of numerals. -/
import Derived.Test.YtgijplljpimbmaaGreatDoorKP
import Derived.Test.YtgijplljpimbmaaGreatDoorFgRf
import Derived.Sort.Grow
namespace Go.Proofs.PlatenFigure
open Go.RowKit
set_option linter.unusedVariables false
set_option linter.unusedSimpArgs false

/-! A sign ahead. -/
theorem getD_cons (c : UInt8) (l : List UInt8) (j : Nat) : (c :: l).getD (1 + j) 0 = l.getD j 0 := by
  rw [Nat.add_comm]; rfl
theorem foldR_cons (c : UInt8) (l : List UInt8) : ∀ k, foldR (c :: l) 1 k = foldR l 0 k
  | 0 => rfl
  | k + 1 => by
    show stepR (foldR (c :: l) 1 k) ((c :: l).getD (1 + k) 0) = stepR (foldR l 0 k) (l.getD (0 + k) 0)
    rw [foldR_cons c l k, getD_cons, Nat.zero_add]
theorem foldE_cons (c : UInt8) (l : List UInt8) (i : Nat) : ∀ k, foldE (c :: l) (i + 1) k = foldE l i k
  | 0 => rfl
  | k + 1 => by
    show stepE (foldE (c :: l) (i + 1) k) ((c :: l).getD (i + 1 + k) 0) = stepE (foldE l i k) (l.getD (i + k) 0)
    rw [foldE_cons c l i k, show i + 1 + k = 1 + (i + k) by omega, getD_cons]
theorem num_cons {l : List UInt8} {pm pe : Nat} {eneg : Bool} (h : Num l 0 pm pe false eneg) (c : UInt8) (neg : Bool) (hc : (neg = false ∧ c.toNat = 43) ∨ (neg = true ∧ c.toNat = 45)) :
    Num (c :: l) 1 (pm + 1) (pe + 1) neg eneg ∧ rdM (c :: l) 1 (pm + 1) = rdM l 0 pm ∧ rdP (c :: l) 1 (pm + 1) (pe + 1) eneg = rdP l 0 pm pe eneg := by
  have hM : rdM (c :: l) 1 (pm + 1) = rdM l 0 pm := by
    unfold rdM
    rw [Nat.add_sub_cancel, Nat.sub_zero, foldR_cons]
  refine ⟨⟨Or.inr ⟨rfl, hc⟩, by have := h.lt; omega, by have := h.le; simp; omega, fun i h1 h2 => ?_, ?_, fun k h1 h2 => ?_, ?_⟩, hM, ?_⟩
  · obtain ⟨j, rfl⟩ : ∃ j, i = 1 + j := ⟨i - 1, by omega⟩
    rw [getD_cons]
    exact h.ms j (by omega) (by omega)
  · exact h.first
  · rw [getD_cons] at h2
    rw [foldR_cons]
    exact h.one k (by omega) (by rw [Nat.zero_add]; exact h2)
  · rcases h.tail with ⟨h1, h2, h3⟩ | ⟨h1, h2, h3, h4, h5⟩
    · exact Or.inl ⟨by simp [h1], by omega, h3⟩
    · have ge : (c :: l).getD (pm + 1) 0 = l.getD pm 0 := rfl
      have gs : (c :: l).getD (pm + 1 + 1) 0 = l.getD (pm + 1) 0 := rfl
      refine Or.inr ⟨by omega, by simp; omega, by rw [ge]; exact h3, fun i h6 h7 => ?_, ?_⟩
      · obtain ⟨j, rfl⟩ : ∃ j, i = 1 + j := ⟨i - 1, by omega⟩
        rw [getD_cons]
        exact h4 j (by omega) (by simp at h7; omega)
      · rw [gs]
        rcases h5 with ⟨h5, h6⟩ | ⟨h5, h6⟩
        · exact Or.inl ⟨by omega, h6⟩
        · exact Or.inr ⟨by omega, h6⟩
  · have hE : rdE (c :: l) (pm + 1) (pe + 1) = rdE l pm pe := by
      unfold rdE
      rw [foldE_cons, List.length_cons, Nat.add_sub_add_right]
    unfold rdP
    rw [hM, hE]
theorem tr_no (l : List UInt8) (i0 : Nat) : ∀ k, k ≤ 19 → (foldR l i0 k).tr = false ∧ (foldR l i0 k).nm ≤ k
  | 0, _ => ⟨rfl, Nat.le_refl _⟩
  | k + 1, h => by
    obtain ⟨h1, h2⟩ := tr_no l i0 k (by omega)
    show (stepR (foldR l i0 k) (l.getD (i0 + k) 0)).tr = false ∧ (stepR (foldR l i0 k) (l.getD (i0 + k) 0)).nm ≤ k + 1
    generalize foldR l i0 k = r at *
    unfold stepR
    split
    · exact ⟨h1, by show r.nm ≤ _; omega⟩
    · split
      · exact ⟨h1, by show r.nm ≤ _; omega⟩
      · rw [if_pos (by omega)]
        exact ⟨h1, by show r.nm + 1 ≤ _; omega⟩

/-! What is read of a number's text of 19 digits at most. -/
theorem rd_small {l : List UInt8} {i0 pm pe : Nat} {neg eneg : Bool} (h : Num l i0 pm pe neg eneg) : (rdM l i0 pm).m < 10000000000000000000 :=
  (okR l i0 (pm - i0) (fun j hj => h.ms (i0 + j) (by omega) (by omega))).small
theorem nosp_of (s : ByteArray) (i0 pm pe : Nat) (neg eneg : Bool) (hs : s.size ≤ 1000) (h : Num (L s) i0 pm pe neg eneg) : NoSp s := fun w => special_num s i0 pm pe neg eneg w hs h
theorem rdf_of (s : ByteArray) (i0 pm pe : Nat) (neg eneg : Bool) (hs : s.size ≤ 1000) (h : Num (L s) i0 pm pe neg eneg) : RdF s (rdM (L s) i0 pm).m (rdP (L s) i0 pm pe eneg) neg (rdM (L s) i0 pm).tr := fun w => read_any s i0 pm pe neg eneg w hs h
theorem pf_num (s : ByteArray) (i0 pm pe : Nat) (neg eneg : Bool) (hs : s.size ≤ 100) (h : Num (L s) i0 pm pe neg eneg) (x : Nat) (b : Bool) (ha : atF (rdM (L s) i0 pm).m (rdP (L s) i0 pm pe eneg) neg (rdM (L s) i0 pm).tr = some (x, b)) : PF s x :=
  pf_of s x b (by omega) (at_any s _ _ neg _ hs (rd_small h) (nosp_of s i0 pm pe neg eneg (by omega) h) (rdf_of s i0 pm pe neg eneg (by omega) h) x b ha)

/-! Numerals. -/
theorem dg_lib (u j : Nat) : dg (Lib.dg u j) = true := by
  unfold Lib.dg
  have h : u / 10 ^ j % 10 < 10 := Nat.mod_lt _ (by decide)
  generalize u / 10 ^ j % 10 = x at *
  have key : ∀ x : Fin 10, dg (UInt8.ofNat (48 + x.val)) = true := by decide
  exact key ⟨x, h⟩
theorem dec_dg (u : Nat) : Dg (Lib.decDigits u) := by
  rw [Lib.decDigits_eq]
  have h := Lib.nDigits_pos u
  refine ⟨fun e => ?_, ?_⟩
  · have := congrArg List.length e
    simp at this
    omega
  · rw [List.all_eq_true]
    intro x hx
    obtain ⟨t, _, rfl⟩ := List.mem_map.1 hx
    exact dg_lib _ _
theorem nDigits_le : ∀ (k u : Nat), u < 10 ^ (k + 1) → Lib.nDigits u ≤ k + 1
  | 0, u, h => by rw [Lib.nDigits_small (by simpa using h)]; omega
  | k + 1, u, h => by
    by_cases q : u < 10
    · rw [Lib.nDigits_small q]; omega
    · rw [Lib.nDigits_big q]
      have := nDigits_le k (u / 10) (by rw [Nat.div_lt_iff_lt_mul (by decide), ← Nat.pow_succ]; exact h)
      omega
/-- The text of FigureSigns. -/
def sT (n a : Nat) (p : Int) : List UInt8 := Lib.decDigits n ++ ((46 :: Lib.decDigits a) ++ (101 :: Lib.itoa p))
theorem itoa_ex (p : Int) : Dg ((Lib.itoa p).drop (sg1 (Lib.itoa p))) := by
  unfold Lib.itoa
  split
  · rw [sg1_cons]
    exact dec_dg _
  · have h := dec_dg p.toNat
    have h0 : sg1 (Lib.decDigits p.toNat) = 0 := by
      obtain ⟨h1, h2⟩ := h
      generalize Lib.decDigits p.toNat = l at *
      cases l with
      | nil => exact absurd rfl h1
      | cons c r =>
        rw [sg1_cons, if_neg]
        have : dg c = true := by simpa using (List.all_eq_true.1 h2 c (by simp))
        simp only [dg, decide_eq_true_eq] at this
        omega
    rw [h0]
    exact h
theorem sT_nm (n a : Nat) (p : Int) : Nm (sT n a p) :=
  ⟨_, _, _, rfl, dec_dg n, Or.inr ⟨_, rfl, dec_dg a⟩, Or.inr ⟨101, _, rfl, rfl, itoa_ex p⟩⟩
theorem sT_sg (n a : Nat) (p : Int) : sg1 (sT n a p) = 0 := by
  obtain ⟨h1, h2⟩ := dec_dg n
  unfold sT
  generalize Lib.decDigits n = l at *
  cases l with
  | nil => exact absurd rfl h1
  | cons c r =>
    rw [List.cons_append, sg1_cons, if_neg]
    have : dg c = true := by simpa using (List.all_eq_true.1 h2 c (by simp))
    simp only [dg, decide_eq_true_eq] at this
    omega
theorem sT_len (n a : Nat) (p : Int) (hn : n < 4294967296) (ha : a < 65536) (h1 : -128 ≤ p) (h2 : p ≤ 127) : (Lib.decDigits n).length ≤ 10 ∧ (Lib.decDigits a).length ≤ 5 ∧ (sT n a p).length ≤ 30 := by
  have l1 : (Lib.decDigits n).length ≤ 10 := by rw [Lib.decDigits_length]; exact nDigits_le 9 n (by omega)
  have l2 : (Lib.decDigits a).length ≤ 5 := by rw [Lib.decDigits_length]; exact nDigits_le 4 a (by omega)
  have l3 : (Lib.itoa p).length ≤ 4 := by
    unfold Lib.itoa
    split
    · rw [List.length_cons, Lib.decDigits_length]
      have := nDigits_le 2 p.natAbs (by omega)
      omega
    · rw [Lib.decDigits_length]
      have := nDigits_le 2 p.toNat (by omega)
      omega
  refine ⟨l1, l2, ?_⟩
  unfold sT
  simp
  omega
end Go.Proofs.PlatenFigure
