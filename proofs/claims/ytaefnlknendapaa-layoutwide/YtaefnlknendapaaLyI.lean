/- Sizes as the program reckons them, from the left: what waits till the next break is known. -/
import Derived.Test.YtaefnlknendapaaLyS
namespace Go.Proofs.PlatenLayout
set_option linter.unusedVariables false

/-- How many open groups began behind what stands at place t of what waits. -/
def dep (O : List (Nat × Nat)) (t : Nat) : Nat := O.countP fun o => decide (t < o.2)
def floorO (O : List (Nat × Nat)) : Nat := (O.getLast?.map Prod.snd).getD 0
theorem floorO_snoc (O : List (Nat × Nat)) (o : Nat × Nat) : floorO (O ++ [o]) = o.2 := by simp [floorO]
theorem dep_snoc (O : List (Nat × Nat)) (o : Nat × Nat) (t : Nat) : dep (O ++ [o]) t = dep O t + if t < o.2 then 1 else 0 := by
  unfold dep
  rw [List.countP_append]
  simp [List.countP_cons]
theorem dep_zero {O : List (Nat × Nat)} {t : Nat} (h : ∀ o ∈ O, o.2 ≤ t) : dep O t = 0 := by
  unfold dep
  rw [List.countP_eq_zero]
  intro o ho
  have := h o ho
  simp; omega
theorem mono_last {O : List (Nat × Nat)} (h : O.Pairwise fun a b => a.2 ≤ b.2) : ∀ o ∈ O, o.2 ≤ floorO O := by
  rcases List.eq_nil_or_concat O with rfl | ⟨O', o', rfl⟩
  · intro o ho; cases ho
  · intro o ho
    rw [List.concat_eq_append] at *
    rw [floorO_snoc]
    rcases List.mem_append.1 ho with q | q
    · exact (List.pairwise_append.1 h).2.2 o q o' (by simp)
    · simp at q; rw [q]; exact Nat.le_refl _
theorem dep_floor {O : List (Nat × Nat)} (h : O.Pairwise fun a b => a.2 ≤ b.2) {t : Nat} (ht : floorO O ≤ t) : dep O t = 0 :=
  dep_zero fun o ho => Nat.le_trans (mono_last h o ho) ht
theorem dep_pos {O : List (Nat × Nat)} {t : Nat} (ht : t < floorO O) : 0 < dep O t := by
  rcases List.eq_nil_or_concat O with rfl | ⟨O', o', rfl⟩
  · simp [floorO] at ht
  · rw [List.concat_eq_append] at *
    rw [floorO_snoc] at ht
    rw [dep_snoc, if_pos ht]; omega

/-- What waits is told what there is up to here. -/
def settle (T : Int) (ps : List Nat) (z : List Int) : List Int := ps.foldl (fun z j => z.set j (z.getD j 0 + T)) z
theorem settle_snoc (T : Int) (ps : List Nat) (j : Nat) (z : List Int) : settle T (ps ++ [j]) z = (settle T ps z).set j ((settle T ps z).getD j 0 + T) := by simp [settle, List.foldl_append]
theorem settle_len (T : Int) : ∀ (ps : List Nat) (z : List Int), (settle T ps z).length = z.length
  | [], z => rfl
  | j :: ps, z => by
    show (settle T ps (z.set j (z.getD j 0 + T))).length = _
    rw [settle_len T ps, List.length_set]
theorem settle_not (T : Int) : ∀ (ps : List Nat) (z : List Int) (j : Nat), j ∉ ps → (settle T ps z)[j]? = z[j]?
  | [], z, j, h => rfl
  | p :: ps, z, j, h => by
    show (settle T ps (z.set p (z.getD p 0 + T)))[j]? = _
    rw [settle_not T ps _ j (fun q => h (by simp [q])), List.getElem?_set_ne (fun q => h (by simp [q]))]
theorem settle_in (T : Int) : ∀ (ps : List Nat) (z : List Int) (j : Nat) (a : Int), ps.Nodup → j ∈ ps → z[j]? = some a → (settle T ps z)[j]? = some (a + T)
  | [], z, j, a, hn, hj, h => by cases hj
  | p :: ps, z, j, a, hn, hj, h => by
    rw [List.nodup_cons] at hn
    show (settle T ps (z.set p (z.getD p 0 + T)))[j]? = _
    have hlt : j < z.length := (List.getElem?_eq_some_iff.1 h).1
    by_cases e : j = p
    · subst e
      rw [settle_not T ps _ j hn.1, List.getElem?_set_self hlt, List.getD_eq_getElem?_getD, h]
      rfl
    · have hj' : j ∈ ps := by
        rcases List.mem_cons.1 hj with q | q
        · exact absurd q e
        · exact q
      exact settle_in T ps _ j a hn.2 hj' (by rw [List.getElem?_set_ne (fun q => e q.symm)]; exact h)

/-- Behind i items: the sizes so far, what waits, and the groups that are open with how much waited when they began. -/
structure Inv (l : List It) (i : Nat) (z : List Int) (P : List Nat) (O : List (Nat × Nat)) : Prop where
  hi : i ≤ l.length
  len : z.length = l.length
  nd : (P ++ O.map Prod.fst).Nodup
  lt : ∀ j ∈ P ++ O.map Prod.fst, j < i
  pend : ∀ t j, P[t]? = some j → z[j]? = some (-((pre l j : Nat) : Int)) ∧ pre l j + size (l.drop j) = pre l i + brk (l.drop i) (dep O t)
  opn : ∀ k o, O[k]? = some o → z[o.1]? = some (-((pre l o.1 : Nat) : Int)) ∧ pre l o.1 + size (l.drop o.1) = pre l i + brk (l.drop i) (O.length - k) ∧ o.2 ≤ P.length
  mono : O.Pairwise fun a b => a.2 ≤ b.2
  done : ∀ j, j < i → j ∉ P ++ O.map Prod.fst → z[j]? = some ((size (l.drop j) : Nat) : Int)
  rest : ∀ j, i ≤ j → j < l.length → z[j]? = some 0
theorem inv_start (l : List It) : Inv l 0 (List.replicate l.length 0) [] [] where
  hi := Nat.zero_le _
  len := by simp
  nd := by simp
  lt := fun j h => by simp at h
  pend := fun t j h => by simp at h
  opn := fun k o h => by simp at h
  mono := List.Pairwise.nil
  done := fun j h => absurd h (Nat.not_lt_zero _)
  rest := fun j _ h => by rw [List.getElem?_replicate, if_pos h]

section
variable {l : List It} {i : Nat} {z : List Int} {P : List Nat} {O : List (Nat × Nat)}
theorem brk_step (h : i < l.length) (d d' : Nat) (hk : (kd l i = 3 ∧ d' = d + 1) ∨ (kd l i = 4 ∧ d' = d - 1) ∨ (kd l i = 2 ∧ 0 < d ∧ d' = d) ∨ (kd l i ≠ 2 ∧ kd l i ≠ 3 ∧ kd l i ≠ 4 ∧ d' = d)) :
    pre l i + brk (l.drop i) d = pre l (i + 1) + brk (l.drop (i + 1)) d' := by
  rw [pre_succ h, List.drop_eq_getElem_cons h, brk]
  rw [kd_get h] at hk
  rcases hk with ⟨k, rfl⟩ | ⟨k, rfl⟩ | ⟨k, h0, rfl⟩ | ⟨k2, k3, k4, rfl⟩
  · rw [if_pos k]; simp [It.own, k]
  · rw [if_neg (by omega), if_pos k]; simp [It.own, k]
  · rw [if_neg (by omega), if_neg (by omega), if_neg (by omega)]; omega
  · rw [if_neg k3, if_neg k4, if_neg (fun q => k2 q.1)]; omega
theorem brk_here (h : i < l.length) (k : kd l i = 2) : pre l i + brk (l.drop i) 0 = pre l i := by
  rw [List.drop_eq_getElem_cons h, brk]
  rw [kd_get h] at k
  rw [if_neg (by omega), if_neg (by omega), if_pos ⟨k, rfl⟩]
  rfl
theorem Inv.notin (I : Inv l i z P O) : i ∉ P ++ O.map Prod.fst := fun q => Nat.lt_irrefl _ (I.lt i q)
/-- A text, or an item of another kind: what is at i is its size. -/
theorem Inv.plain (I : Inv l i z P O) (h : i < l.length) (k2 : kd l i ≠ 2) (k3 : kd l i ≠ 3) (k4 : kd l i ≠ 4) {a : Int} (ha : a = (size (l.drop i) : Nat)) : Inv l (i + 1) (z.set i a) P O where
  hi := h
  len := by rw [List.length_set]; exact I.len
  nd := I.nd
  lt := fun j q => Nat.lt_succ_of_lt (I.lt j q)
  pend := fun t j q => by
    have hne : i ≠ j := fun e => I.notin (by rw [e]; exact List.mem_append_left _ (List.mem_of_getElem? q))
    obtain ⟨a1, a2⟩ := I.pend t j q
    rw [List.getElem?_set_ne hne]
    exact ⟨a1, by rw [a2]; exact brk_step h _ _ (Or.inr (Or.inr (Or.inr ⟨k2, k3, k4, rfl⟩)))⟩
  opn := fun k o q => by
    have hne : i ≠ o.1 := fun e => I.notin (by rw [e]; exact List.mem_append_right _ (List.mem_map_of_mem (List.mem_of_getElem? q)))
    obtain ⟨a1, a2, a3⟩ := I.opn k o q
    rw [List.getElem?_set_ne hne]
    exact ⟨a1, by rw [a2]; exact brk_step h _ _ (Or.inr (Or.inr (Or.inr ⟨k2, k3, k4, rfl⟩))), a3⟩
  mono := I.mono
  done := fun j hj q => by
    by_cases e : i = j
    · subst e; rw [List.getElem?_set_self (by rw [I.len]; exact h), ha]
    · rw [List.getElem?_set_ne e]; exact I.done j (by omega) q
  rest := fun j hj q => by rw [List.getElem?_set_ne (by omega)]; exact I.rest j (by omega) q
theorem set_same {z : List Int} {i : Nat} {a : Int} (h : z[i]? = some a) : z.set i a = z := by
  apply List.ext_getElem?
  intro j
  by_cases e : i = j
  · subst e; rw [List.getElem?_set_self (List.getElem?_eq_some_iff.1 h).1, h]
  · rw [List.getElem?_set_ne e]
theorem Inv.other (I : Inv l i z P O) (h : i < l.length) (k1 : kd l i ≠ 1) (k2 : kd l i ≠ 2) (k3 : kd l i ≠ 3) (k4 : kd l i ≠ 4) : Inv l (i + 1) z P O := by
  have := I.plain h k2 k3 k4 (a := 0) (by rw [size_none h k1 k2 k3]; rfl)
  rwa [set_same (I.rest i (Nat.le_refl _) h)] at this
theorem Inv.text (I : Inv l i z P O) (h : i < l.length) (k1 : kd l i = 1) {c : Nat} (hc : l[i].ch = c) : Inv l (i + 1) (z.set i (c : Nat)) P O ∧ pre l (i + 1) = pre l i + c := by
  have k' := k1
  rw [kd_get h] at k'
  have ho : l[i].own = c := by simp [It.own, k', hc]
  have hp := pre_succ h
  rw [ho] at hp
  have hs := size_text h k1
  exact ⟨I.plain h (by omega) (by omega) (by omega) (by rw [show size (l.drop i) = c by omega]), hp⟩
/-- A break: what waits from the innermost group's beginning on is settled. -/
theorem Inv.breaks (I : Inv l i z P O) (h : i < l.length) (k : kd l i = 2) {f : Nat} (hf : floorO O = f) : Inv l (i + 1) ((settle ((pre l i : Nat) : Int) (P.drop f) z).set i (-((pre l i : Nat) : Int))) (P.take f ++ [i]) O := by
  subst hf
  have nP : P.Nodup := (List.nodup_append.1 I.nd).1
  have hnd : (P.drop (floorO O)).Nodup := nP.sublist (List.drop_sublist _ _)
  have hsplit := List.take_append_drop (floorO O) P
  have disj : ∀ j, j ∈ P.take (floorO O) → j ∉ P.drop (floorO O) := fun j a b => by
    rw [← hsplit] at nP
    exact (List.nodup_append.1 nP).2.2 j a j b rfl
  have hfl : floorO O ≤ P.length := by
    rcases List.eq_nil_or_concat O with rfl | ⟨O', o', rfl⟩
    · exact Nat.zero_le _
    · rw [List.concat_eq_append] at *
      rw [floorO_snoc]
      exact (I.opn O'.length o' (by simp)).2.2
  have hlt : (P.take (floorO O)).length = floorO O := by rw [List.length_take]; omega
  have sub : ∀ j, j ∈ P.take (floorO O) → j ∈ P := fun j q => List.mem_of_mem_take q
  refine ⟨h, by rw [List.length_set, settle_len]; exact I.len, ?_, ?_, ?_, ?_, I.mono, ?_, ?_⟩
  · have h1 : (P.take (floorO O) ++ O.map Prod.fst).Nodup := I.nd.sublist ((List.take_sublist _ _).append (List.Sublist.refl _))
    rw [List.append_assoc]
    rw [List.nodup_append] at h1 ⊢
    refine ⟨h1.1, ?_, ?_⟩
    · show (i :: O.map Prod.fst).Nodup
      rw [List.nodup_cons]
      exact ⟨fun q => I.notin (List.mem_append_right _ q), h1.2.1⟩
    · intro a ha b hb
      rcases List.mem_cons.1 hb with q | q
      · rw [q]; intro e; subst e; exact I.notin (List.mem_append_left _ (sub _ ha))
      · exact h1.2.2 a ha b q
  · intro j hj
    rcases List.mem_append.1 hj with q | q
    · rcases List.mem_append.1 q with q | q
      · exact Nat.lt_succ_of_lt (I.lt j (List.mem_append_left _ (sub _ q)))
      · simp at q; omega
    · exact Nat.lt_succ_of_lt (I.lt j (List.mem_append_right _ q))
  · intro t j ht
    rcases Nat.lt_or_ge t (floorO O) with q | q
    · rw [List.getElem?_append_left (by omega)] at ht
      have hm := List.mem_of_getElem? ht
      rw [List.getElem?_take, if_pos q] at ht
      obtain ⟨a1, a2⟩ := I.pend t j ht
      have hne : i ≠ j := fun e => I.notin (by rw [e]; exact List.mem_append_left _ (sub _ hm))
      rw [List.getElem?_set_ne hne, settle_not _ _ _ _ (disj j hm)]
      exact ⟨a1, by rw [a2]; exact brk_step h _ _ (Or.inr (Or.inr (Or.inl ⟨k, dep_pos q, rfl⟩)))⟩
    · rw [List.getElem?_append_right (by omega), hlt] at ht
      have ht0 : t = floorO O := by
        have := (List.getElem?_eq_some_iff.1 ht).1
        simp at this; omega
      subst ht0
      simp at ht
      subst ht
      rw [List.getElem?_set_self (by rw [settle_len, I.len]; exact h), dep_floor I.mono (Nat.le_refl _)]
      refine ⟨rfl, ?_⟩
      have k' := k
      rw [kd_get h] at k'
      rw [pre_succ h, List.drop_eq_getElem_cons h]
      simp [size, k']
      omega
  · intro q o ho
    have hm : o.1 ∈ O.map Prod.fst := List.mem_map_of_mem (List.mem_of_getElem? ho)
    have hne : i ≠ o.1 := fun e => I.notin (by rw [e]; exact List.mem_append_right _ hm)
    have hnp : o.1 ∉ P.drop (floorO O) := fun q => (List.nodup_append.1 I.nd).2.2 o.1 (List.mem_of_mem_drop q) o.1 hm rfl
    obtain ⟨a1, a2, a3⟩ := I.opn q o ho
    have hq : q < O.length := (List.getElem?_eq_some_iff.1 ho).1
    rw [List.getElem?_set_ne hne, settle_not _ _ _ _ hnp]
    refine ⟨a1, by rw [a2]; exact brk_step h _ _ (Or.inr (Or.inr (Or.inl ⟨k, by omega, rfl⟩))), ?_⟩
    rw [List.length_append, hlt]
    have := mono_last I.mono o (List.mem_of_getElem? ho)
    omega
  · intro j hj hn
    have hne : i ≠ j := fun e => hn (by rw [e]; simp)
    rw [List.getElem?_set_ne hne]
    by_cases hp : j ∈ P.drop (floorO O)
    · obtain ⟨t, ht⟩ := List.getElem?_of_mem hp
      rw [List.getElem?_drop] at ht
      obtain ⟨a1, a2⟩ := I.pend _ j ht
      rw [settle_in _ _ _ _ _ hnd hp a1]
      rw [dep_floor I.mono (Nat.le_add_right _ _), brk_here h k] at a2
      congr 1
      omega
    · rw [settle_not _ _ _ _ hp]
      refine I.done j (by omega) fun q => ?_
      rcases List.mem_append.1 q with q | q
      · rw [← hsplit] at q
        rcases List.mem_append.1 q with q | q
        · exact hn (by simp [q])
        · exact hp q
      · exact hn (List.mem_append_right _ q)
  · intro j hj hl
    have hnp : j ∉ P.drop (floorO O) := fun q => by
      have := I.lt j (List.mem_append_left _ (List.mem_of_mem_drop q))
      omega
    rw [List.getElem?_set_ne (by omega), settle_not _ _ _ _ hnp]
    exact I.rest j (by omega) hl
theorem size_begin (h : i < l.length) (k : kd l i = 3) : size (l.drop i) = brk (l.drop (i + 1)) 1 := by
  rw [kd_get h] at k
  rw [List.drop_eq_getElem_cons h, ← grp_brk]
  simp [size, k]
/-- A group begins. -/
theorem Inv.begin (I : Inv l i z P O) (h : i < l.length) (k : kd l i = 3) : Inv l (i + 1) (z.set i (-((pre l i : Nat) : Int))) P (O ++ [(i, P.length)]) ∧ pre l (i + 1) = pre l i := by
  have k' := k
  rw [kd_get h] at k'
  have ho : l[i].own = 0 := by simp [It.own, k']
  have hp := pre_succ h
  rw [ho] at hp
  replace hp : pre l (i + 1) = pre l i := hp
  refine ⟨⟨h, by rw [List.length_set]; exact I.len, ?_, ?_, ?_, ?_, ?_, ?_, ?_⟩, hp⟩
  · rw [List.map_append, ← List.append_assoc]
    rw [List.nodup_append]
    refine ⟨I.nd, by simp, ?_⟩
    intro a ha b hb e
    simp at hb
    rw [e, hb] at ha
    exact I.notin ha
  · intro j hj
    rw [List.map_append, ← List.append_assoc] at hj
    rcases List.mem_append.1 hj with q | q
    · exact Nat.lt_succ_of_lt (I.lt j q)
    · simp at q; omega
  · intro t j ht
    have hne : i ≠ j := fun e => I.notin (by rw [e]; exact List.mem_append_left _ (List.mem_of_getElem? ht))
    obtain ⟨a1, a2⟩ := I.pend t j ht
    have htl : t < P.length := (List.getElem?_eq_some_iff.1 ht).1
    rw [List.getElem?_set_ne hne, dep_snoc, if_pos htl]
    exact ⟨a1, by rw [a2]; exact brk_step h _ _ (Or.inl ⟨k, rfl⟩)⟩
  · intro q o ho2
    rw [List.length_append, List.length_singleton]
    rcases Nat.lt_or_ge q O.length with hq | hq
    · rw [List.getElem?_append_left hq] at ho2
      have hne : i ≠ o.1 := fun e => I.notin (by rw [e]; exact List.mem_append_right _ (List.mem_map_of_mem (List.mem_of_getElem? ho2)))
      obtain ⟨a1, a2, a3⟩ := I.opn q o ho2
      rw [List.getElem?_set_ne hne]
      exact ⟨a1, by rw [a2]; exact brk_step h _ _ (Or.inl ⟨k, by omega⟩), a3⟩
    · rw [List.getElem?_append_right hq] at ho2
      have : q = O.length := by
        have := (List.getElem?_eq_some_iff.1 ho2).1
        simp at this; omega
      subst this
      simp at ho2
      subst ho2
      rw [List.getElem?_set_self (by rw [I.len]; exact h)]
      refine ⟨rfl, ?_, Nat.le_refl _⟩
      show pre l i + size (l.drop i) = _
      rw [size_begin h k, hp, show O.length + 1 - O.length = 1 by omega]
  · rw [List.pairwise_append]
    refine ⟨I.mono, by simp, ?_⟩
    intro a ha b hb
    simp at hb
    rw [hb]
    obtain ⟨q, hq⟩ := List.getElem?_of_mem ha
    exact (I.opn q a hq).2.2
  · intro j hj hn
    rw [List.map_append, ← List.append_assoc] at hn
    have hne : i ≠ j := fun e => hn (by rw [e]; simp)
    rw [List.getElem?_set_ne hne]
    exact I.done j (by omega) fun q => hn (List.mem_append_left _ q)
  · intro j hj hl
    rw [List.getElem?_set_ne (by omega)]
    exact I.rest j (by omega) hl
/-- An end without a group. -/
theorem Inv.end0 (I : Inv l i z P []) (h : i < l.length) (k : kd l i = 4) : Inv l (i + 1) z P [] ∧ pre l (i + 1) = pre l i := by
  have k' := k
  rw [kd_get h] at k'
  have ho : l[i].own = 0 := by simp [It.own, k']
  have hp := pre_succ h
  rw [ho] at hp
  replace hp : pre l (i + 1) = pre l i := hp
  refine ⟨⟨h, I.len, I.nd, fun j q => Nat.lt_succ_of_lt (I.lt j q), ?_, fun k o q => by simp at q, List.Pairwise.nil, ?_, fun j hj hl => I.rest j (by omega) hl⟩, hp⟩
  · intro t j ht
    obtain ⟨a1, a2⟩ := I.pend t j ht
    exact ⟨a1, by rw [a2]; exact brk_step h _ _ (Or.inr (Or.inl ⟨k, rfl⟩))⟩
  · intro j hj hn
    by_cases e : j = i
    · subst e
      rw [I.rest j (Nat.le_refl _) h, size_none h (by omega) (by omega) (by omega)]
      rfl
    · exact I.done j (by omega) hn
/-- The innermost group ends: now its beginning waits for a break. -/
theorem Inv.end1 {o : Nat × Nat} (I : Inv l i z P (O ++ [o])) (h : i < l.length) (k : kd l i = 4) : Inv l (i + 1) z (P ++ [o.1]) O ∧ pre l (i + 1) = pre l i := by
  have k' := k
  rw [kd_get h] at k'
  have ho : l[i].own = 0 := by simp [It.own, k']
  have hp := pre_succ h
  rw [ho] at hp
  replace hp : pre l (i + 1) = pre l i := hp
  have perm : ∀ j, j ∈ P ++ [o.1] ++ O.map Prod.fst ↔ j ∈ P ++ (O ++ [o]).map Prod.fst := fun j => by
    simp only [List.mem_append, List.map_append, List.map_cons, List.map_nil, List.mem_singleton]
    constructor
    · rintro ((q | q) | q)
      · exact Or.inl q
      · exact Or.inr (Or.inr q)
      · exact Or.inr (Or.inl q)
    · rintro (q | q | q)
      · exact Or.inl (Or.inl q)
      · exact Or.inr q
      · exact Or.inl (Or.inr q)
  have hm := (List.pairwise_append.1 I.mono)
  have hmo : ∀ a ∈ O, a.2 ≤ o.2 := fun a ha => hm.2.2 a ha o (by simp)
  refine ⟨⟨h, I.len, ?_, fun j q => Nat.lt_succ_of_lt (I.lt j ((perm j).1 q)), ?_, ?_, hm.1, ?_, fun j hj hl => I.rest j (by omega) hl⟩, hp⟩
  · have hn := I.nd
    rw [List.map_append, List.nodup_append, List.nodup_append] at hn
    obtain ⟨n1, ⟨n2, n3, n4⟩, n5⟩ := hn
    rw [List.append_assoc, List.nodup_append]
    refine ⟨n1, ?_, ?_⟩
    · show (o.1 :: O.map Prod.fst).Nodup
      rw [List.nodup_cons]
      exact ⟨fun q => n4 o.1 q o.1 (by simp) rfl, n2⟩
    · intro a ha b hb
      rcases List.mem_cons.1 hb with q | q
      · exact n5 a ha b (by rw [q]; simp)
      · exact n5 a ha b (List.mem_append_left _ q)
  · intro t j ht
    rcases Nat.lt_or_ge t P.length with q | q
    · rw [List.getElem?_append_left q] at ht
      obtain ⟨a1, a2⟩ := I.pend t j ht
      refine ⟨a1, a2.trans (brk_step h _ _ (Or.inr (Or.inl ⟨k, ?_⟩)))⟩
      rw [dep_snoc]
      split
      · omega
      · rw [dep_zero (fun a ha => by have := hmo a ha; omega)]
    · rw [List.getElem?_append_right q] at ht
      have : t = P.length := by
        have := (List.getElem?_eq_some_iff.1 ht).1
        simp at this; omega
      subst this
      simp at ht
      subst ht
      obtain ⟨a1, a2, a3⟩ := I.opn O.length o (by simp)
      refine ⟨a1, a2.trans (brk_step h _ _ (Or.inr (Or.inl ⟨k, ?_⟩)))⟩
      rw [dep_zero (fun a ha => by have := hmo a ha; omega)]
      simp
  · intro q a ha
    have hq : q < O.length := (List.getElem?_eq_some_iff.1 ha).1
    obtain ⟨a1, a2, a3⟩ := I.opn q a (by rw [List.getElem?_append_left hq]; exact ha)
    refine ⟨a1, a2.trans (brk_step h _ _ (Or.inr (Or.inl ⟨k, ?_⟩))), by rw [List.length_append]; omega⟩
    simp; omega
  · intro j hj hn
    by_cases e : j = i
    · subst e
      rw [I.rest j (Nat.le_refl _) h, size_none h (by omega) (by omega) (by omega)]
      rfl
    · exact I.done j (by omega) fun q => hn ((perm j).2 q)
/-- All are settled. -/
theorem Inv.all (I : Inv l l.length z P O) (j : Nat) (h : j < l.length) : (settle ((pre l l.length : Nat) : Int) (P ++ O.map Prod.fst) z)[j]? = some ((size (l.drop j) : Nat) : Int) := by
  have hz : ∀ d, brk (l.drop l.length) d = 0 := fun d => by rw [List.drop_length]; rfl
  by_cases hm : j ∈ P ++ O.map Prod.fst
  · have : z[j]? = some (-((pre l j : Nat) : Int)) ∧ pre l j + size (l.drop j) = pre l l.length := by
      rcases List.mem_append.1 hm with q | q
      · obtain ⟨t, ht⟩ := List.getElem?_of_mem q
        obtain ⟨a1, a2⟩ := I.pend t j ht
        rw [hz] at a2
        exact ⟨a1, a2⟩
      · obtain ⟨o, ho, rfl⟩ := List.mem_map.1 q
        obtain ⟨t, ht⟩ := List.getElem?_of_mem ho
        obtain ⟨a1, a2, _⟩ := I.opn t o ht
        rw [hz] at a2
        exact ⟨a1, a2⟩
    rw [settle_in _ _ _ _ _ I.nd hm this.1]
    congr 1
    omega
  · rw [settle_not _ _ _ _ hm]
    exact I.done j h hm
end
end Go.Proofs.PlatenLayout
