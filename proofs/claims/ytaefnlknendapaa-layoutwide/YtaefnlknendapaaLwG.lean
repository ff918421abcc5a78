/- Items that are put in a group: what is kept of them. -/
import Derived.Test.YtaefnlknendapaaLwF
namespace Go.Proofs.PlatenLayout
open Go Go.RowKit Go.Shelf
set_option linter.unusedVariables false
set_option maxRecDepth 100000

/-- How many groups are open after the first k. -/
def dp (l : List It) : Nat → Nat
  | 0 => 0
  | k + 1 => if kd l k = 3 then dp l k + 1 else if kd l k = 4 then dp l k - 1 else dp l k
/-- What is kept of the first k: no end of none. -/
def kp (l : List It) : Nat → List It
  | 0 => []
  | k + 1 => kp l k ++ (if kd l k = 4 ∧ dp l k = 0 then [] else (l[k]?).toList)
theorem dp_le (l : List It) (k : Nat) : dp l k ≤ k := by
  induction k with
  | zero => exact Nat.le_refl _
  | succ k ih => unfold dp; split
                 · omega
                 · split <;> omega
theorem opt_len {α : Type} (o : Option α) : o.toList.length ≤ 1 := by cases o <;> simp
theorem kp_len (l : List It) (k : Nat) : (kp l k).length ≤ k := by
  induction k with
  | zero => exact Nat.le_refl _
  | succ k ih =>
    unfold kp
    rw [List.length_append]
    have := opt_len (l[k]?)
    split
    · simp; omega
    · omega
theorem kp_mem (l : List It) (k : Nat) : ∀ x ∈ kp l k, x ∈ l := by
  induction k with
  | zero => intro x hx; simp [kp] at hx
  | succ k ih =>
    intro x hx
    rcases List.mem_append.1 hx with h | h
    · exact ih x h
    · split at h
      · simp at h
      · rw [Option.mem_toList] at h
        exact List.mem_of_getElem? h
theorem kp_inner (l : List It) (k : Nat) (hk : k ≤ l.length) : ∀ rest, inner rest (1 + dp l k) → inner (kp l k ++ rest) 1 := by
  induction k with
  | zero => intro rest h; exact h
  | succ k ih =>
    intro rest h
    have hlt : k < l.length := by omega
    unfold kp
    rw [List.append_assoc]
    refine ih (by omega) _ ?_
    unfold dp at h
    rw [List.getElem?_eq_getElem hlt]
    rw [kd_get hlt] at h ⊢
    show inner ((if l[k].kind = 4 ∧ dp l k = 0 then [] else [l[k]]) ++ rest) (1 + dp l k)
    by_cases k3 : l[k].kind = 3
    · rw [if_pos k3] at h
      rw [if_neg (by omega)]
      show if l[k].kind = 3 then _ else _
      rw [if_pos k3]
      exact h
    · rw [if_neg k3] at h
      by_cases k4 : l[k].kind = 4
      · rw [if_pos k4] at h
        by_cases d0 : dp l k = 0
        · rw [if_pos ⟨k4, d0⟩]
          rw [d0] at h ⊢
          exact h
        · rw [if_neg (fun q => d0 q.2)]
          show if l[k].kind = 3 then _ else if l[k].kind = 4 then inner rest (1 + dp l k - 1) else _
          rw [if_neg k3, if_pos k4, show 1 + dp l k - 1 = 1 + (dp l k - 1) by omega]
          exact h
      · rw [if_neg k4] at h
        rw [if_neg (fun q => k4 q.1)]
        show if l[k].kind = 3 then _ else if l[k].kind = 4 then _ else if l[k].kind = 2 then 0 < 1 + dp l k ∧ inner rest (1 + dp l k) else inner rest (1 + dp l k)
        rw [if_neg k3, if_neg k4]
        split
        · exact ⟨by omega, h⟩
        · exact h
theorem kp_grp (l : List It) (k : Nat) (hk : k ≤ l.length) : ∀ rest, grp (kp l k ++ rest) 0 = sum (kp l k) + grp rest (dp l k) := by
  induction k with
  | zero => intro rest; show grp rest 0 = 0 + grp rest 0; omega
  | succ k ih =>
    intro rest
    have hlt : k < l.length := by omega
    have e : kp l (k + 1) = kp l k ++ (if kd l k = 4 ∧ dp l k = 0 then [] else (l[k]?).toList) := rfl
    have ed : dp l (k + 1) = if kd l k = 3 then dp l k + 1 else if kd l k = 4 then dp l k - 1 else dp l k := rfl
    rw [e, ed, List.append_assoc, ih (by omega), sum_app, List.getElem?_eq_getElem hlt, kd_get hlt]
    show _ + grp ((if l[k].kind = 4 ∧ dp l k = 0 then [] else [l[k]]) ++ rest) (dp l k) = _ + sum (if l[k].kind = 4 ∧ dp l k = 0 then [] else [l[k]]) + _
    by_cases k3 : l[k].kind = 3
    · rw [if_neg (by omega), if_pos k3]
      have ho : l[k].own = 0 := by simp [It.own, k3]
      show _ + (if l[k].kind = 3 then grp rest (dp l k + 1) else _) = _ + (l[k].own + 0) + _
      rw [if_pos k3, ho]
      omega
    · rw [if_neg k3]
      by_cases k4 : l[k].kind = 4
      · rw [if_pos k4]
        by_cases d0 : dp l k = 0
        · rw [if_pos ⟨k4, d0⟩, d0]
          show _ + grp rest 0 = _ + 0 + grp rest 0
          omega
        · have ho : l[k].own = 0 := by simp [It.own, k4]
          rw [if_neg (fun q => d0 q.2)]
          show _ + (if l[k].kind = 3 then _ else if l[k].kind = 4 then (if dp l k = 0 then _ else grp rest (dp l k - 1)) else _) = _ + (l[k].own + 0) + _
          rw [if_neg k3, if_pos k4, if_neg d0, ho]
          omega
      · rw [if_neg k4, if_neg (fun q => k4 q.1)]
        show _ + (if l[k].kind = 3 then _ else if l[k].kind = 4 then _ else l[k].own + grp rest (dp l k)) = _ + (l[k].own + 0) + _
        rw [if_neg k3, if_neg k4]
        omega
def ens (m : Nat) : List It := List.replicate m enIt
theorem ens_succ (m : Nat) : ens (m + 1) = ens m ++ [enIt] := by unfold ens; rw [List.replicate_succ']
theorem ens_inner (m : Nat) : ∀ d, inner (ens m) d := by
  induction m with
  | zero => intro d; exact trivial
  | succ m ih => intro d; show inner (ens m) (d - 1); exact ih _
theorem ens_grp (m : Nat) : grp (ens (m + 1)) m = 0 := by
  induction m with
  | zero => rfl
  | succ m ih =>
    show (if m + 1 = 0 then brk (ens (m + 1)) 0 else grp (ens (m + 1)) (m + 1 - 1)) = 0
    rw [if_neg (by omega)]
    exact ih
theorem ens_sum (m : Nat) : sum (ens m) = 0 := by
  induction m with
  | zero => rfl
  | succ m ih => show 0 + sum (ens m) = 0; rw [ih]
/-- All of it, j ends put behind. -/
def FL (l : List It) (k j : Nat) : List It := wG :: kp l k ++ ens j
theorem fl_step (l : List It) (k : Nat) (hk : k < l.length) : FL l (k + 1) 0 = FL l k 0 ++ (if l[k].kind = 4 ∧ dp l k = 0 then [] else [l[k]]) := by
  have e : kp l (k + 1) = kp l k ++ (if kd l k = 4 ∧ dp l k = 0 then [] else (l[k]?).toList) := rfl
  unfold FL
  rw [e, List.getElem?_eq_getElem hk, kd_get hk]
  simp [ens]
theorem fl_end (l : List It) (k j : Nat) : FL l k (j + 1) = FL l k j ++ [enIt] := by
  unfold FL
  rw [ens_succ, List.append_assoc]
theorem fl_len (l : List It) (k j : Nat) : (FL l k j).length ≤ 1 + k + j := by
  have := kp_len l k
  unfold FL
  rw [List.length_append, List.length_cons, show (ens j).length = j from List.length_replicate]
  omega
theorem fl_ok {l : List It} (h : ∀ x ∈ l, OkIt x) (k j : Nat) (hk : k + j ≤ 900) : OkL (FL l k j) := by
  refine ⟨by have := fl_len l k j; omega, fun x hx => ?_⟩
  rcases List.mem_append.1 hx with hx | hx
  · rcases List.mem_cons.1 hx with hx | hx
    · rw [hx]; exact ok_wG
    · exact h x (kp_mem l k x hx)
  · rw [List.eq_of_mem_replicate hx]; exact ok_en
/-- What layout.Lay makes of it where it fits. -/
theorem fl_fits {l : List It} (hf : ∀ x ∈ l, Fine x) (hl : l.length ≤ 100) :
    ∃ q, Sg q (size (FL l l.length (dp l l.length + 1))) ∧ (∀ c ∈ q, c ≠ 10) ∧ ∀ w : Int, ((size (FL l l.length (dp l l.length + 1)) : Nat) : Int) ≤ w → size (FL l l.length (dp l l.length + 1)) ≤ 60000 → lay w (FL l l.length (dp l l.length + 1)) s0 = some q := by
  have hi : inner (kp l l.length ++ ens (dp l l.length + 1)) 1 := kp_inner l _ (Nat.le_refl _) _ (ens_inner _ _)
  have hs : size (FL l l.length (dp l l.length + 1)) = sum (kp l l.length ++ ens (dp l l.length + 1)) := by
    have e : size (FL l l.length (dp l l.length + 1)) = grp (kp l l.length ++ ens (dp l l.length + 1)) 0 := rfl
    rw [e, kp_grp l _ (Nat.le_refl _), ens_grp, sum_app, ens_sum]
  obtain ⟨f1, f2, f3⟩ := flat_sg (kp l l.length ++ ens (dp l l.length + 1)) (fun x hx => by
    rcases List.mem_append.1 hx with hx | hx
    · exact hf x (kp_mem l _ x hx)
    · rw [List.eq_of_mem_replicate hx]; exact fine_no (by decide))
  have hk := kp_len l l.length
  have hd := dp_le l l.length
  rw [List.length_append, show (ens (dp l l.length + 1)).length = dp l l.length + 1 from List.length_replicate] at f2
  refine ⟨flatL (kp l l.length ++ ens (dp l l.length + 1)), by rw [hs]; exact f1, f3, fun w hw hz => ?_⟩
  exact lay_one w (kp l l.length ++ ens (dp l l.length + 1)) hi (by rw [← hs]; exact hw) hw (by unfold most; omega)
/-- Texts and breaks alone, of the first k. -/
def op (l : List It) : Nat → List It
  | 0 => []
  | k + 1 => op l k ++ (if kd l k = 1 ∨ kd l k = 2 then (l[k]?).toList else [])
theorem op_step (l : List It) (k : Nat) (hk : k < l.length) : op l (k + 1) = op l k ++ (if l[k].kind = 1 ∨ l[k].kind = 2 then [l[k]] else []) := by
  show op l k ++ _ = _
  rw [List.getElem?_eq_getElem hk, kd_get hk]
  rfl
theorem op_len (l : List It) (k : Nat) : (op l k).length ≤ k := by
  induction k with
  | zero => exact Nat.le_refl _
  | succ k ih =>
    unfold op
    rw [List.length_append]
    have := opt_len (l[k]?)
    split
    · omega
    · simp; omega
theorem op_mem (l : List It) (k : Nat) (hk : k ≤ l.length) : ∀ x ∈ op l k, x ∈ l ∧ (x.kind = 1 ∨ x.kind = 2) := by
  induction k with
  | zero => intro x hx; simp [op] at hx
  | succ k ih =>
    intro x hx
    rw [op_step l k (by omega)] at hx
    rcases List.mem_append.1 hx with h | h
    · exact ih (by omega) x h
    · split at h
      · rename_i hk
        simp at h
        rw [h]
        exact ⟨List.getElem_mem _, hk⟩
      · simp at h
theorem tb_inner : ∀ (R : List It), (∀ x ∈ R, x.kind = 1 ∨ x.kind = 2) → inner R 1 ∧ grp R 0 = sum R
  | [], h => ⟨trivial, rfl⟩
  | x :: r, h => by
    obtain ⟨h1, h2⟩ := tb_inner r (fun y hy => h y (by simp [hy]))
    have hx := h x (by simp)
    refine ⟨?_, ?_⟩
    · show if x.kind = 3 then _ else if x.kind = 4 then _ else if x.kind = 2 then 0 < 1 ∧ inner r 1 else inner r 1
      rw [if_neg (by omega), if_neg (by omega)]
      split
      · exact ⟨by decide, h1⟩
      · exact h1
    · show (if x.kind = 3 then _ else if x.kind = 4 then _ else x.own + grp r 0) = x.own + sum r
      rw [if_neg (by omega), if_neg (by omega), h2]
theorem op_ok {l : List It} (h : ∀ x ∈ l, OkIt x) (k : Nat) (hk : k ≤ l.length) (hl : l.length ≤ 900) : OkL (wG :: op l k) := by
  refine ⟨by have := op_len l k; rw [List.length_cons]; omega, fun x hx => ?_⟩
  rcases List.mem_cons.1 hx with hx | hx
  · rw [hx]; exact ok_wG
  · exact h x (op_mem l k hk x hx).1
theorem op_fits {l : List It} (hf : ∀ x ∈ l, Fine x) (hl : l.length ≤ 100) :
    ∃ q, Sg q (size (wG :: op l l.length)) ∧ (size (wG :: op l l.length) ≤ 60000 → lay ((size (wG :: op l l.length) : Nat) : Int) (wG :: op l l.length) s0 = some q) := by
  have hm := op_mem l l.length (Nat.le_refl _)
  obtain ⟨hi, hg⟩ := tb_inner (op l l.length) (fun x hx => (hm x hx).2)
  have hs : size (wG :: op l l.length) = sum (op l l.length) := hg
  obtain ⟨f1, f2, f3⟩ := flat_sg (op l l.length) (fun x hx => hf x (hm x hx).1)
  have hk := op_len l l.length
  refine ⟨flatL (op l l.length), by rw [hs]; exact f1, fun hz => ?_⟩
  exact lay_one _ _ hi (by rw [hs]; exact Int.le_refl _) (Int.le_refl _) (by unfold most; omega)
end Go.Proofs.PlatenLayout
