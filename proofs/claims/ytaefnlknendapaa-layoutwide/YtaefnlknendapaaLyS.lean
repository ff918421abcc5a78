/- Sizes as the document counts them: where groups end, the next break, sums between places. -/
import Derived.Test.YtaefnlknendapaaLyM
namespace Go.Proofs.PlatenLayout
set_option linter.unusedVariables false

theorem grp_brk : ∀ (l : List It) (d : Nat), grp l d = brk l (d + 1)
  | [], d => rfl
  | x :: r, d => by
    have h1 := grp_brk r (d + 1)
    have h3 := grp_brk r d
    show (if x.kind = 3 then grp r (d + 1) else if x.kind = 4 then (if d = 0 then brk r 0 else grp r (d - 1)) else x.own + grp r d) = (if x.kind = 3 then brk r (d + 1 + 1) else if x.kind = 4 then brk r (d + 1 - 1) else if x.kind = 2 ∧ d + 1 = 0 then 0 else x.own + brk r (d + 1))
    by_cases k3 : x.kind = 3
    · rw [if_pos k3, if_pos k3, h1]
    · rw [if_neg k3, if_neg k3]
      by_cases k4 : x.kind = 4
      · rw [if_pos k4, if_pos k4]
        cases d with
        | zero => rfl
        | succ d => rw [if_neg (by omega), Nat.add_sub_cancel, Nat.add_sub_cancel, grp_brk r d]
      · rw [if_neg k4, if_neg k4, if_neg (by omega), h3]
/-- Where the group ends of which d more are open. -/
def mend : List It → Nat → Option Nat
  | [], _ => none
  | x :: r, d =>
    if x.kind = 3 then (mend r (d + 1)).map (· + 1)
    else if x.kind = 4 then (if d = 0 then some 0 else (mend r (d - 1)).map (· + 1))
    else (mend r d).map (· + 1)
theorem brk_mend : ∀ (r : List It) (d : Nat), (∀ e, mend r d = some e → e < r.length ∧ brk r (d + 1) = sum (r.take e) + brk (r.drop (e + 1)) 0) ∧ (mend r d = none → brk r (d + 1) = sum r)
  | [], d => ⟨fun e h => (by cases h), fun _ => rfl⟩
  | x :: r, d => by
    have step : ∀ d', mend (x :: r) d = (mend r d').map (· + 1) → brk (x :: r) (d + 1) = x.own + brk r (d' + 1) → (∀ e, mend (x :: r) d = some e → e < (x :: r).length ∧ brk (x :: r) (d + 1) = sum ((x :: r).take e) + brk ((x :: r).drop (e + 1)) 0) ∧ (mend (x :: r) d = none → brk (x :: r) (d + 1) = sum (x :: r)) := by
      intro d' h1 h2
      obtain ⟨a, b⟩ := brk_mend r d'
      rw [h1, h2]
      refine ⟨fun e he => ?_, fun he => ?_⟩
      · cases hm : mend r d' with
        | none => rw [hm] at he; cases he
        | some e' =>
          rw [hm] at he
          injection he with he
          obtain rfl : e = e' + 1 := he.symm
          obtain ⟨c1, c2⟩ := a e' hm
          refine ⟨by simp; omega, ?_⟩
          rw [c2, List.take_succ_cons, List.drop_succ_cons]
          show _ = x.own + sum (r.take e') + _
          omega
      · cases hm : mend r d' with
        | none => rw [b hm]; rfl
        | some e' => rw [hm] at he; cases he
    by_cases k3 : x.kind = 3
    · refine step (d + 1) (by rw [mend, if_pos k3]) ?_
      rw [brk, if_pos k3]
      simp [It.own, k3]
    · by_cases k4 : x.kind = 4
      · cases d with
        | zero =>
          have e1 : mend (x :: r) 0 = some 0 := by rw [mend, if_neg k3, if_pos k4, if_pos rfl]
          have e2 : brk (x :: r) (0 + 1) = brk r 0 := by rw [brk, if_neg k3, if_pos k4]
          rw [e1, e2]
          refine ⟨fun e he => ?_, fun he => by cases he⟩
          injection he with he
          subst he
          exact ⟨by simp, by simp [sum]⟩
        | succ d =>
          refine step d (by rw [mend, if_neg k3, if_pos k4, if_neg (by omega), Nat.add_sub_cancel]) ?_
          rw [brk, if_neg k3, if_pos k4, Nat.add_sub_cancel]
          simp [It.own, k4]
      · refine step d (by rw [mend, if_neg k3, if_neg k4]) ?_
        rw [brk, if_neg k3, if_neg k4, if_neg (by omega)]

def kd (l : List It) (j : Nat) : Nat := match l[j]? with | some x => x.kind | none => 0
theorem kd_get {l : List It} {j : Nat} (h : j < l.length) : kd l j = l[j].kind := by unfold kd; rw [List.getElem?_eq_getElem h]
theorem mend_drop {l : List It} {i : Nat} (h : i < l.length) (t : Nat) : mend (l.drop i) t = if kd l i = 3 then (mend (l.drop (i + 1)) (t + 1)).map (· + 1) else if kd l i = 4 then (if t = 0 then some 0 else (mend (l.drop (i + 1)) (t - 1)).map (· + 1)) else (mend (l.drop (i + 1)) t).map (· + 1) := by
  rw [List.drop_eq_getElem_cons h, kd_get h]
  rfl
/-- Where the group that begins at j ends; the end of all, if it doesn't. -/
def endI (l : List It) (j : Nat) : Nat := match mend (l.drop (j + 1)) 0 with | some e => j + 1 + e | none => l.length
/-- The ends that are known ahead of item i, and what is open, the innermost last. -/
structure EI (l : List It) (i : Nat) (out : List Int) (os : List Nat) : Prop where
  le : i ≤ l.length
  len : out.length = i
  non : ∀ j, j < i → kd l j ≠ 3 → out[j]? = some (-1)
  opn : ∀ t j, os.reverse[t]? = some j → j < i ∧ kd l j = 3 ∧ out[j]? = some (l.length : Int) ∧ mend (l.drop (j + 1)) 0 = (mend (l.drop i) t).map fun e => e + (i - (j + 1))
  cls : ∀ j, j < i → kd l j = 3 → j ∉ os → ∃ e, mend (l.drop (j + 1)) 0 = some e ∧ out[j]? = some ((j + 1 + e : Nat) : Int)
  nd : os.Nodup
theorem ei_nil (l : List It) : EI l 0 [] [] := ⟨Nat.zero_le _, rfl, fun j h => absurd h (Nat.not_lt_zero _), fun t j h => by simp at h, fun j h => absurd h (Nat.not_lt_zero _), List.nodup_nil⟩
theorem get_snoc {out : List Int} {i j : Nat} {v w : Int} (hl : out.length = i) (h : out[j]? = some v) : (out ++ [w])[j]? = some v := by
  have : j < out.length := (List.getElem?_eq_some_iff.1 h).1
  rw [List.getElem?_append_left this]; exact h
theorem get_last {out : List Int} {i : Nat} {w : Int} (hl : out.length = i) : (out ++ [w])[i]? = some w := by
  subst hl
  rw [List.getElem?_append_right (Nat.le_refl _), Nat.sub_self]
  rfl
theorem map_map' {o : Option Nat} {a b : Nat} (c : Nat) (h : b + a = c) : (o.map (· + a)).map (fun e => e + b) = o.map fun e => e + c := by
  cases o with
  | none => rfl
  | some e => simp only [Option.map_some]; congr 1; omega
theorem ei_begin {l : List It} {i : Nat} {out : List Int} {os : List Nat} (E : EI l i out os) (h : i < l.length) (k : kd l i = 3) : EI l (i + 1) (out ++ [(l.length : Int)]) (os ++ [i]) := by
  have hno : i ∉ os := fun hm => by
    obtain ⟨t, ht⟩ := List.getElem?_of_mem (List.mem_reverse.2 hm)
    exact absurd (E.opn t i ht).1 (Nat.lt_irrefl _)
  refine ⟨h, by simp [E.len], fun j hj hk => ?_, fun t j ht => ?_, fun j hj hk hm => ?_, ?_⟩
  · have : j < i := by
      rcases Nat.lt_or_ge j i with q | q
      · exact q
      · obtain rfl : j = i := by omega
        exact absurd k hk
    exact get_snoc E.len (E.non j this hk)
  · rw [List.reverse_append] at ht
    cases t with
    | zero =>
      injection ht with ht
      subst ht
      refine ⟨Nat.lt_succ_self _, k, get_last E.len, ?_⟩
      rw [Nat.sub_self]
      cases mend (l.drop (i + 1)) 0 <;> rfl
    | succ t =>
      obtain ⟨a, b, c, d⟩ := E.opn t j ht
      refine ⟨by omega, b, get_snoc E.len c, ?_⟩
      rw [d, mend_drop h, if_pos k]
      exact map_map' _ (by omega)
  · have hj' : j ≠ i := fun e => hm (by simp [e])
    obtain ⟨e, h1, h2⟩ := E.cls j (by omega) hk (fun q => hm (by simp [q]))
    exact ⟨e, h1, get_snoc E.len h2⟩
  · rw [List.nodup_append]
    refine ⟨E.nd, by simp, fun a ha b hb e => ?_⟩
    simp at hb
    subst hb e
    exact hno ha
theorem ei_end {l : List It} {i j0 : Nat} {out : List Int} {os : List Nat} (E : EI l i out (os ++ [j0])) (h : i < l.length) (k : kd l i = 4) : EI l (i + 1) ((out ++ [-1]).set j0 (i : Int)) os := by
  have hnd := E.nd
  rw [List.nodup_append] at hnd
  have hj0 := E.opn 0 j0 (by simp)
  obtain ⟨a0, b0, c0, d0⟩ := hj0
  have hset : ∀ j v, j ≠ j0 → (out ++ [-1])[j]? = some v → ((out ++ [-1]).set j0 (i : Int))[j]? = some v := fun j v hj hv => by
    rw [List.getElem?_set_ne (fun e => hj e.symm)]; exact hv
  refine ⟨h, by simp [E.len], fun j hj hk => ?_, fun t j ht => ?_, fun j hj hk hm => ?_, hnd.1⟩
  · refine hset _ _ (fun e => hk (e ▸ b0)) ?_
    rcases Nat.lt_or_ge j i with q | q
    · exact get_snoc E.len (E.non j q hk)
    · obtain rfl : j = i := by omega
      exact get_last E.len
  · have ht' : (os ++ [j0]).reverse[t + 1]? = some j := by rw [List.reverse_append]; exact ht
    obtain ⟨a, b, c, d⟩ := E.opn (t + 1) j ht'
    have hmem : j ∈ os := List.mem_reverse.1 (List.mem_of_getElem? ht)
    refine ⟨by omega, b, hset _ _ (fun e => hnd.2.2 j hmem j0 (by simp) e) (get_snoc E.len c), ?_⟩
    rw [d, mend_drop h, if_neg (by omega), if_pos k, if_neg (by omega), Nat.add_sub_cancel]
    exact map_map' _ (by omega)
  · by_cases e : j = j0
    · subst e
      rw [mend_drop h, if_neg (by omega), if_pos k, if_pos rfl] at d0
      refine ⟨_, d0, ?_⟩
      rw [List.getElem?_set_self (by simp [E.len]; omega)]
      show some (i : Int) = some ((j + 1 + (0 + (i - (j + 1))) : Nat) : Int)
      rw [show j + 1 + (0 + (i - (j + 1))) = i by omega]
    · have hne : j ≠ i := fun q => by rw [q] at hk; omega
      obtain ⟨e', h1, h2⟩ := E.cls j (by omega) hk (fun q => by
        rcases List.mem_append.1 q with q | q
        · exact hm q
        · simp at q; exact e q)
      exact ⟨e', h1, hset _ _ e (get_snoc E.len h2)⟩
theorem ei_none {l : List It} {i : Nat} {out : List Int} (E : EI l i out []) (h : i < l.length) (k : kd l i = 4) : EI l (i + 1) (out ++ [-1]) [] := by
  refine ⟨h, by simp [E.len], fun j hj hk => ?_, fun t j ht => by simp at ht, fun j hj hk hm => ?_, List.nodup_nil⟩
  · rcases Nat.lt_or_ge j i with q | q
    · exact get_snoc E.len (E.non j q hk)
    · obtain rfl : j = i := by omega
      exact get_last E.len
  · have hne : j ≠ i := fun q => by rw [q] at hk; omega
    obtain ⟨e', h1, h2⟩ := E.cls j (by omega) hk hm
    exact ⟨e', h1, get_snoc E.len h2⟩
theorem ei_other {l : List It} {i : Nat} {out : List Int} {os : List Nat} (E : EI l i out os) (h : i < l.length) (k3 : kd l i ≠ 3) (k4 : kd l i ≠ 4) : EI l (i + 1) (out ++ [-1]) os := by
  refine ⟨h, by simp [E.len], fun j hj hk => ?_, fun t j ht => ?_, fun j hj hk hm => ?_, E.nd⟩
  · rcases Nat.lt_or_ge j i with q | q
    · exact get_snoc E.len (E.non j q hk)
    · obtain rfl : j = i := by omega
      exact get_last E.len
  · obtain ⟨a, b, c, d⟩ := E.opn t j ht
    refine ⟨by omega, b, get_snoc E.len c, ?_⟩
    rw [d, mend_drop h, if_neg k3, if_neg k4]
    exact map_map' _ (by omega)
  · have hne : j ≠ i := fun q => by rw [q] at hk; exact k3 hk
    obtain ⟨e', h1, h2⟩ := E.cls j (by omega) hk hm
    exact ⟨e', h1, get_snoc E.len h2⟩
/-- All ends. -/
theorem ei_all {l : List It} {out : List Int} {os : List Nat} (E : EI l l.length out os) (j : Nat) (hj : j < l.length) : out[j]? = some (if kd l j = 3 then ((endI l j : Nat) : Int) else -1) := by
  by_cases k : kd l j = 3
  · rw [if_pos k]
    unfold endI
    by_cases hm : j ∈ os
    · obtain ⟨t, ht⟩ := List.getElem?_of_mem (List.mem_reverse.2 hm)
      obtain ⟨a, b, c, d⟩ := E.opn t j ht
      rw [List.drop_length] at d
      have d' : mend (l.drop (j + 1)) 0 = none := d
      rw [d']
      exact c
    · obtain ⟨e, h1, h2⟩ := E.cls j hj k hm
      rw [h1]
      exact h2
  · rw [if_neg k]; exact E.non j hj k

/-! Sums between places, and the next break. -/
theorem sum_app (a b : List It) : sum (a ++ b) = sum a + sum b := by
  induction a with
  | nil => simp [sum]
  | cons x r ih => show x.own + sum (r ++ b) = x.own + sum r + sum b; omega
def pre (l : List It) (b : Nat) : Nat := sum (l.take b)
theorem pre_succ {l : List It} {b : Nat} (h : b < l.length) : pre l (b + 1) = pre l b + l[b].own := by
  unfold pre
  rw [List.take_add_one, List.getElem?_eq_getElem h, sum_app]
  rfl
theorem pre_all (l : List It) : pre l l.length = sum l := by unfold pre; rw [List.take_length]
theorem pre_add (l : List It) (a e : Nat) : pre l (a + e) = pre l a + sum ((l.drop a).take e) := by
  unfold pre
  rw [List.take_add, sum_app]
/-- The loop for the next break stands at i; C is the sum ahead of that break. -/
def Nx (l : List It) (C i : Nat) : Prop := (i ≤ l.length ∧ C = pre l i + brk (l.drop i) 0) ∨ (i = l.length + 1 ∧ C = pre l l.length)
theorem nx_start {l : List It} {i : Nat} (h : i ≤ l.length) : Nx l (pre l i + brk (l.drop i) 0) i := Or.inl ⟨h, rfl⟩
theorem nx_end {l : List It} {C i : Nat} (h : Nx l C i) (hi : l.length ≤ i) : C = pre l l.length := by
  rcases h with ⟨a, b⟩ | ⟨a, b⟩
  · obtain rfl : i = l.length := by omega
    rw [b, List.drop_length]
    rfl
  · exact b
theorem nx_break {l : List It} {C i : Nat} (h : Nx l C i) (hi : i < l.length) (k : kd l i = 2) : C = pre l i := by
  rcases h with ⟨a, b⟩ | ⟨a, b⟩
  · rw [kd_get hi] at k
    rw [b, List.drop_eq_getElem_cons hi, brk, if_neg (by omega), if_neg (by omega), if_pos ⟨k, rfl⟩]
    rfl
  · omega
theorem mend_kind : ∀ (r : List It) (d e : Nat), mend r d = some e → ∃ x, r[e]? = some x ∧ x.kind = 4
  | [], d, e, h => by cases h
  | x :: r, d, e, h => by
    have go : ∀ d', (mend r d').map (· + 1) = some e → ∃ y, (x :: r)[e]? = some y ∧ y.kind = 4 := by
      intro d' h
      cases hm : mend r d' with
      | none => rw [hm] at h; cases h
      | some e' =>
        rw [hm] at h
        injection h with h
        obtain rfl : e = e' + 1 := h.symm
        obtain ⟨y, h1, h2⟩ := mend_kind r d' e' hm
        exact ⟨y, by rw [List.getElem?_cons_succ]; exact h1, h2⟩
    rw [mend] at h
    split at h
    · exact go _ h
    · split at h
      · rename_i k4
        split at h
        · injection h with h
          subst h
          exact ⟨x, rfl, k4⟩
        · exact go _ h
      · exact go _ h
theorem nx_begin {l : List It} {C i : Nat} (h : Nx l C i) (hi : i < l.length) (k : kd l i = 3) : Nx l C (endI l i + 1) := by
  rcases h with ⟨a, b⟩ | ⟨a, b⟩
  · rw [kd_get hi] at k
    have ho : l[i].own = 0 := by simp [It.own, k]
    rw [List.drop_eq_getElem_cons hi, brk, if_pos k] at b
    obtain ⟨m1, m2⟩ := brk_mend (l.drop (i + 1)) 0
    unfold endI
    cases hm : mend (l.drop (i + 1)) 0 with
    | none =>
      refine Or.inr ⟨rfl, ?_⟩
      rw [b, m2 hm, pre_all, ← pre_all l]
      have := pre_add l (i + 1) (l.length - (i + 1))
      rw [show i + 1 + (l.length - (i + 1)) = l.length by omega, List.take_of_length_le (by simp), pre_succ hi, ho] at this
      omega
    | some e =>
      obtain ⟨c1, c2⟩ := m1 e hm
      rw [List.length_drop] at c1
      have hlt : i + 1 + e < l.length := by omega
      refine Or.inl ⟨by show i + 1 + e + 1 ≤ _; omega, ?_⟩
      show C = pre l (i + 1 + e + 1) + brk (l.drop (i + 1 + e + 1)) 0
      have h4 : l[i + 1 + e].own = 0 := by
        obtain ⟨y, y1, y2⟩ := mend_kind _ 0 e hm
        rw [List.getElem?_drop, List.getElem?_eq_getElem hlt] at y1
        injection y1 with y1
        rw [y1]
        simp [It.own, y2]
      rw [pre_succ hlt, h4, pre_add, pre_succ hi, ho, b, c2, List.drop_drop]
      rw [show i + 1 + (e + 1) = i + 1 + e + 1 by omega]
      omega
  · omega
theorem nx_other {l : List It} {C i : Nat} (h : Nx l C i) (hi : i < l.length) (k3 : kd l i ≠ 3) (k2 : kd l i ≠ 2) : Nx l C (i + 1) := by
  rcases h with ⟨a, b⟩ | ⟨a, b⟩
  · refine Or.inl ⟨hi, ?_⟩
    rw [kd_get hi] at k2 k3
    rw [b, List.drop_eq_getElem_cons hi, brk, if_neg k3, pre_succ hi]
    by_cases k4 : l[i].kind = 4
    · rw [if_pos k4]
      simp [It.own, k4]
    · rw [if_neg k4, if_neg (fun q => k2 q.1)]
      omega
  · omega

/-! The sizes, place by place. -/
theorem size_text {l : List It} {i : Nat} (h : i < l.length) (k : kd l i = 1) : pre l (i + 1) = pre l i + size (l.drop i) := by
  rw [kd_get h] at k
  rw [pre_succ h, List.drop_eq_getElem_cons h]
  simp [size, k]
theorem size_break {l : List It} {i S : Nat} (h : i < l.length) (k : kd l i = 2) (hS : pre l S = pre l (i + 1) + brk (l.drop (i + 1)) 0) : pre l S = pre l i + size (l.drop i) := by
  rw [kd_get h] at k
  rw [hS, pre_succ h, List.drop_eq_getElem_cons h]
  simp [size, k]
  omega
theorem size_none {l : List It} {i : Nat} (h : i < l.length) (k1 : kd l i ≠ 1) (k2 : kd l i ≠ 2) (k3 : kd l i ≠ 3) : size (l.drop i) = 0 := by
  rw [kd_get h] at k1 k2 k3
  rw [List.drop_eq_getElem_cons h]
  simp [size, k1, k2, k3]
theorem size_open {l : List It} {i : Nat} (h : i < l.length) (k : kd l i = 3) (he : endI l i = l.length) : pre l l.length = pre l i + size (l.drop i) := by
  obtain ⟨m1, m2⟩ := brk_mend (l.drop (i + 1)) 0
  rw [kd_get h] at k
  have ho : l[i].own = 0 := by simp [It.own, k]
  have hz : size (l.drop i) = brk (l.drop (i + 1)) (0 + 1) := by
    rw [List.drop_eq_getElem_cons h, ← grp_brk]
    simp [size, k]
  have hp := pre_add l (i + 1) (l.length - (i + 1))
  rw [show i + 1 + (l.length - (i + 1)) = l.length by omega, List.take_of_length_le (by simp), pre_succ h, ho] at hp
  rw [hz, hp]
  cases hm : mend (l.drop (i + 1)) 0 with
  | none => rw [m2 hm]; omega
  | some e =>
    obtain ⟨c1, _⟩ := m1 e hm
    rw [List.length_drop] at c1
    unfold endI at he
    rw [hm] at he
    have he' : i + 1 + e = l.length := he
    omega
theorem size_group {l : List It} {i S : Nat} (h : i < l.length) (k : kd l i = 3) (he : endI l i < l.length) (hS : pre l S = pre l (endI l i + 1) + brk (l.drop (endI l i + 1)) 0) : pre l S = pre l i + size (l.drop i) := by
  obtain ⟨m1, m2⟩ := brk_mend (l.drop (i + 1)) 0
  rw [kd_get h] at k
  have ho : l[i].own = 0 := by simp [It.own, k]
  have hz : size (l.drop i) = brk (l.drop (i + 1)) (0 + 1) := by
    rw [List.drop_eq_getElem_cons h, ← grp_brk]
    simp [size, k]
  cases hm : mend (l.drop (i + 1)) 0 with
  | none =>
    unfold endI at he
    rw [hm] at he
    exact absurd he (Nat.lt_irrefl _)
  | some e =>
    have he' : endI l i = i + 1 + e := by unfold endI; rw [hm]
    rw [he'] at hS he
    obtain ⟨c1, c2⟩ := m1 e hm
    have h4 : l[i + 1 + e].own = 0 := by
      obtain ⟨y, y1, y2⟩ := mend_kind _ 0 e hm
      rw [List.getElem?_drop, List.getElem?_eq_getElem he] at y1
      injection y1 with y1
      rw [y1]
      simp [It.own, y2]
    rw [hS, hz, c2, pre_succ he, h4, pre_add, pre_succ h, ho, List.drop_drop]
    rw [show i + 1 + (e + 1) = i + 1 + e + 1 by omega]
    omega
theorem endI_le (l : List It) (i : Nat) (h : i < l.length) : endI l i ≤ l.length ∧ i < endI l i := by
  unfold endI
  cases hm : mend (l.drop (i + 1)) 0 with
  | none => exact ⟨Nat.le_refl _, h⟩
  | some e =>
    have := ((brk_mend (l.drop (i + 1)) 0).1 e hm).1
    rw [List.length_drop] at this
    exact ⟨by show i + 1 + e ≤ _; omega, by show i < i + 1 + e; omega⟩
end Go.Proofs.PlatenLayout
