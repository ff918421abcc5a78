/- What a number's text is: digits, a point with digits or none, an exponent or none. -/
import Derived.Test.YtgijplljpimbmaaGreatDoorFgY
namespace Go.Proofs.PlatenFigure
open Go.RowKit
set_option linter.unusedVariables false
set_option linter.unusedSimpArgs false

def Dg (a : List UInt8) : Prop := a ≠ [] ∧ a.all dg = true
def Fr (f : List UInt8) : Prop := f = [] ∨ ∃ b, f = 46 :: b ∧ Dg b
def Ex (x : List UInt8) : Prop := x = [] ∨ ∃ e u, x = e :: u ∧ isE e = true ∧ Dg (u.drop (sg1 u))
def Nm (t : List UInt8) : Prop := ∃ a f x, t = a ++ (f ++ x) ∧ Dg a ∧ Fr f ∧ Ex x

theorem rdig_iff (a : List UInt8) : rdig a = true ↔ Dg a := by
  simp only [rdig, Dg, Bool.and_eq_true, decide_eq_true_eq, List.length_pos_iff]
  exact And.comm
theorem tw_stop (p : UInt8 → Bool) : ∀ l : List UInt8, (l.takeWhile p).length < l.length → ∃ c, p c = false ∧ l.drop (l.takeWhile p).length = c :: l.drop ((l.takeWhile p).length + 1)
  | [], h => by simp at h
  | a :: t, h => by
    by_cases h0 : p a = true
    · rw [List.takeWhile_cons_of_pos h0] at h ⊢
      obtain ⟨c, h1, h2⟩ := tw_stop p t (by simpa using h)
      exact ⟨c, h1, by simpa using h2⟩
    · rw [List.takeWhile_cons_of_neg h0]
      exact ⟨a, by simpa using h0, by simp⟩
theorem tw_app {p : UInt8 → Bool} {a r : List UInt8} (h : a.all p = true) : (a ++ r).takeWhile p = a ++ r.takeWhile p :=
  List.takeWhile_append_of_pos (fun x hx => List.all_eq_true.1 h x hx)
theorem tw_all (p : UInt8 → Bool) (l : List UInt8) : l.take (l.takeWhile p).length = l.takeWhile p :=
  (List.prefix_iff_eq_take.1 (List.takeWhile_prefix p)).symm
theorem dg_no {c : UInt8} (h : dg c = true) : (decide (c.toNat ≠ 46)) = true ∧ (!isE c) = true ∧ rpart c = true := by
  simp only [dg, decide_eq_true_eq] at h
  refine ⟨by simp; omega, by simp [isE]; omega, by simp [rpart, dg, h]⟩
theorem all_mono {p q : UInt8 → Bool} {a : List UInt8} (h : a.all p = true) (hpq : ∀ c, p c = true → q c = true) : a.all q = true :=
  List.all_eq_true.2 (fun x hx => hpq x (List.all_eq_true.1 h x hx))
theorem nd_app {a r : List UInt8} (h : a.all dg = true) : nd (a ++ r) = a.length + nd r := by
  unfold nd; rw [tw_app h, List.length_append]
theorem nd_stop {c : UInt8} {r : List UInt8} (h : dg c = false) : nd (c :: r) = 0 := by
  unfold nd; rw [List.takeWhile_cons_of_neg (by rw [h]; simp)]; rfl
theorem dg_nd {t : List UInt8} (h : nd t ≠ 0) : Dg (t.take (nd t)) := by
  unfold nd at *
  rw [tw_all]
  exact ⟨fun e => h (by rw [e]; rfl), List.all_takeWhile⟩
theorem c46 {c : UInt8} (h : c.toNat = 46) : c = 46 := UInt8.toNat_inj.1 h
theorem e_nodg {c : UInt8} (h : isE c = true) : dg c = false ∧ c.toNat ≠ 46 := by
  simp only [isE, decide_eq_true_eq] at h
  refine ⟨by simp [dg]; omega, by omega⟩

theorem rplain_iff (p : List UInt8) : rplain p = true ↔ ∃ a f, p = a ++ f ∧ Dg a ∧ Fr f := by
  constructor
  · unfold rplain
    split
    · intro h
      rename_i hd
      simp only [Bool.and_eq_true, rdig_iff] at h
      obtain ⟨c, h1, h2⟩ := tw_stop _ p hd
      have hc : c = 46 := c46 (by simpa using h1)
      refine ⟨p.take (dotless p), p.drop (dotless p), (List.take_append_drop _ _).symm, h.1, .inr ⟨_, ?_, h.2⟩⟩
      rw [← hc]; exact h2
    · intro h
      exact ⟨p, [], by simp, (rdig_iff _).1 h, .inl rfl⟩
  · rintro ⟨a, f, rfl, ha, hf⟩
    have hna := all_mono ha.2 (fun c h => (dg_no h).1)
    rcases hf with rfl | ⟨b, rfl, hb⟩
    · have hdl : dotless (a ++ []) = a.length := by unfold dotless; rw [tw_app hna]; simp
      unfold rplain
      rw [hdl, if_neg (by simp)]
      rw [List.append_nil]
      exact (rdig_iff _).2 ha
    · have hdl : dotless (a ++ 46 :: b) = a.length := by
        unfold dotless; rw [tw_app hna, List.takeWhile_cons_of_neg (by decide)]; simp
      unfold rplain
      rw [hdl, if_pos (by simp)]
      rw [Bool.and_eq_true, rdig_iff, rdig_iff]
      refine ⟨by simpa using ha, ?_⟩
      rw [show (a ++ 46 :: b).drop (a.length + 1) = b by rw [← List.drop_drop]; simp]
      exact hb
theorem rnum_iff (t : List UInt8) : rnum t = true ↔ Nm t := by
  constructor
  · unfold rnum
    split
    · intro h
      rename_i hd
      simp only [Bool.and_eq_true, rdig_iff, rplain_iff] at h
      obtain ⟨hx, a, f, hp, ha, hf⟩ := h
      obtain ⟨c, h1, h2⟩ := tw_stop _ t hd
      refine ⟨a, f, t.drop (eidx t), ?_, ha, hf, .inr ⟨c, _, h2, by simpa using h1, hx⟩⟩
      rw [← List.append_assoc, ← hp, List.take_append_drop]
    · intro h
      obtain ⟨a, f, hp, ha, hf⟩ := (rplain_iff _).1 h
      exact ⟨a, f, [], by simpa using hp, ha, hf, .inl rfl⟩
  · rintro ⟨a, f, x, rfl, ha, hf, hx⟩
    have hpl : rplain (a ++ f) = true := (rplain_iff _).2 ⟨a, f, rfl, ha, hf⟩
    have hne : (a ++ f).all (fun c => !isE c) = true := by
      rw [List.all_append, Bool.and_eq_true]
      refine ⟨all_mono ha.2 (fun c h => (dg_no h).2.1), ?_⟩
      rcases hf with rfl | ⟨b, rfl, hb⟩
      · rfl
      · rw [List.all_cons, all_mono hb.2 (fun c h => (dg_no h).2.1)]; rfl
    rw [← List.append_assoc]
    generalize a ++ f = p at *
    rcases hx with rfl | ⟨e, u, rfl, he, hu⟩
    · have hei : eidx (p ++ []) = p.length := by unfold eidx; rw [tw_app hne]; simp
      unfold rnum
      rw [hei, if_neg (by simp), List.append_nil]
      exact hpl
    · have hei : eidx (p ++ e :: u) = p.length := by
        unfold eidx; rw [tw_app hne, List.takeWhile_cons_of_neg (by rw [he]; simp)]; simp
      unfold rnum
      rw [hei, if_pos (by simp)]
      rw [show (p ++ e :: u).drop (p.length + 1) = u by rw [← List.drop_drop]; simp, show (p ++ e :: u).take p.length = p by simp]
      rw [Bool.and_eq_true, rdig_iff]
      exact ⟨hu, hpl⟩

/-! Signs and marks. -/
theorem pfx1 (c : UInt8) (r : List UInt8) (x : UInt8) : Lib.hasPrefix (c :: r) [x] = decide (c = x) := by
  unfold Lib.hasPrefix
  simp [List.isPrefixOf]
  by_cases h : c = x
  · subst h; simp
  · simp [h]; exact fun e => h e.symm
theorem sg1_cons (c : UInt8) (r : List UInt8) : sg1 (c :: r) = if c.toNat = 45 ∨ c.toNat = 43 then 1 else 0 := by
  unfold sg1; simp
theorem u8eq (c : UInt8) (n : Nat) (h : n < 256) : c = UInt8.ofNat n ↔ c.toNat = n := by
  rw [← UInt8.toNat_inj]; simp [UInt8.toNat_ofNat']; omega
theorem sgn_eq (l : List UInt8) : pfx l [[45], [43]] = sg1 l := by
  rcases l with _ | ⟨c, r⟩
  · rfl
  · rw [sg1_cons]
    unfold pfx pfx pfx
    rw [pfx1, pfx1]
    have h1 : c = 45 ↔ c.toNat = 45 := u8eq c 45 (by omega)
    have h2 : c = 43 ↔ c.toNat = 43 := u8eq c 43 (by omega)
    by_cases q1 : c = 45
    · have := h1.1 q1
      simp [q1]
    · by_cases q2 : c = 43
      · simp [q2]
      · rw [if_neg (by simpa using q1), if_neg (by simpa using q2), if_neg (by rw [← h1, ← h2]; simp [q1, q2])]
theorem frac_nil : frac [] = 0 := by decide
theorem frac_cons (c : UInt8) (r : List UInt8) : frac (c :: r) = if c.toNat = 46 ∧ nd r ≠ 0 then 1 + nd r else 0 := by
  unfold frac pfx pfx
  rw [pfx1]
  have h1 : c = 46 ↔ c.toNat = 46 := u8eq c 46 (by omega)
  by_cases q : c = 46
  · rw [if_pos (by simpa using q)]
    unfold cnt
    by_cases h : nd r = 0
    · rw [if_pos (by right; simpa using h), if_neg (by simp [h])]
    · rw [if_neg (by simpa using h), if_pos ⟨h1.1 q, h⟩]; simp
  · rw [if_neg (by simpa using q)]
    unfold cnt
    rw [if_pos (.inl rfl), if_neg (by rw [← h1]; simp [q])]
theorem expo_nil : expo [] = 0 := by decide
theorem expo_cons (c : UInt8) (u : List UInt8) : expo (c :: u) = if isE c = true ∧ nd (u.drop (sg1 u)) ≠ 0 then 1 + sg1 u + nd (u.drop (sg1 u)) else 0 := by
  have h1 : c = 101 ↔ c.toNat = 101 := u8eq c 101 (by omega)
  have h2 : c = 69 ↔ c.toNat = 69 := u8eq c 69 (by omega)
  have hp : pfx (c :: u) [[101], [69]] = if isE c = true then 1 else 0 := by
    unfold pfx pfx pfx
    rw [pfx1, pfx1]
    simp only [isE, decide_eq_true_eq, ← h1, ← h2]
    by_cases q1 : c = 101
    · simp [q1]
    · by_cases q2 : c = 69
      · simp [q2]
      · simp [q1, q2]
  unfold expo
  rw [hp]
  by_cases q : isE c = true
  · rw [if_pos q, if_neg (by omega)]
    rw [show (c :: u).drop 1 = u from rfl, sgn_eq]
    unfold cnt
    rw [show (c :: u).drop (1 + sg1 u) = u.drop (sg1 u) by rw [Nat.add_comm]; rfl]
    by_cases h : nd (u.drop (sg1 u)) = 0
    · rw [if_pos (.inr h), if_neg (by simp [h])]
    · rw [if_neg (by simp [h]), if_pos ⟨q, h⟩]
  · rw [if_neg q, if_pos rfl, if_neg (by simp [q])]

/-! The longest number's text at the front of a text without a sign. -/
def ulen (t : List UInt8) : Nat := if nd t = 0 then 0 else (nd t + frac (t.drop (nd t))) + expo (t.drop (nd t + frac (t.drop (nd t))))
theorem sg1_app {u r : List UInt8} (h : u ≠ []) : sg1 (u ++ r) = sg1 u := by
  rcases u with _ | ⟨c, u⟩
  · exact absurd rfl h
  · rw [List.cons_append, sg1_cons, sg1_cons]
theorem ex_ge {e : UInt8} {u : List UInt8} (r : List UInt8) (he : isE e = true) (hu : Dg (u.drop (sg1 u))) : 1 + u.length ≤ expo (e :: (u ++ r)) := by
  have hne : u ≠ [] := by rintro rfl; exact hu.1 (by simp)
  have hs := (sg1_le u).1
  have hd : (u ++ r).drop (sg1 u) = u.drop (sg1 u) ++ r := by rw [List.drop_append_of_le_length hs]
  have hn : nd ((u ++ r).drop (sg1 u)) = (u.length - sg1 u) + nd r := by rw [hd, nd_app hu.2, List.length_drop]
  have hp : 0 < (u.drop (sg1 u)).length := List.length_pos_iff.2 hu.1
  rw [List.length_drop] at hp
  rw [expo_cons, sg1_app hne, if_pos ⟨he, by rw [hn]; omega⟩, hn]
  omega
theorem nm_le {t : List UInt8} (r : List UInt8) (h : Nm t) : t.length ≤ ulen (t ++ r) := by
  obtain ⟨a, f, x, rfl, ha, hf, hx⟩ := h
  have ha0 : 0 < a.length := List.length_pos_iff.2 ha.1
  have hnd : nd ((a ++ (f ++ x)) ++ r) = a.length + nd (f ++ (x ++ r)) := by rw [List.append_assoc, List.append_assoc, nd_app ha.2]
  have hx0 : ∀ y, Ex y → y ≠ [] → nd (y ++ r) = 0 ∧ frac (y ++ r) = 0 := fun y hy hne => by
    rcases hy with rfl | ⟨e, u, rfl, he, hu⟩
    · exact absurd rfl hne
    · refine ⟨nd_stop (e_nodg he).1, ?_⟩
      rw [List.cons_append, frac_cons, if_neg (by simp [(e_nodg he).2])]
  have hxl : ∀ y, Ex y → y.length ≤ expo (y ++ r) := fun y hy => by
    rcases hy with rfl | ⟨e, u, rfl, he, hu⟩
    · exact Nat.zero_le _
    · have := ex_ge r he hu
      rw [List.cons_append, List.length_cons]; omega
  unfold ulen
  rw [hnd, if_neg (by omega)]
  rcases hf with rfl | ⟨b, rfl, hb⟩
  · rw [List.nil_append]
    by_cases hxe : x = []
    · subst hxe
      simp only [List.append_nil, List.nil_append]
      omega
    · obtain ⟨h1, h2⟩ := hx0 x hx hxe
      rw [List.nil_append, h1, Nat.add_zero, List.append_assoc]
      rw [show (a ++ (x ++ r)).drop a.length = x ++ r by simp, h2, Nat.add_zero]
      rw [show (a ++ (x ++ r)).drop a.length = x ++ r by simp, List.length_append]
      have := hxl x hx
      omega
  · have hb0 : 0 < b.length := List.length_pos_iff.2 hb.1
    have h0 : nd (46 :: b ++ (x ++ r)) = 0 := nd_stop (by decide)
    rw [h0, Nat.add_zero]
    rw [show (a ++ (46 :: b ++ x)) ++ r = a ++ (46 :: (b ++ (x ++ r))) by simp]
    rw [show (a ++ (46 :: (b ++ (x ++ r)))).drop a.length = 46 :: (b ++ (x ++ r)) by simp]
    have hfr : frac (46 :: (b ++ (x ++ r))) = 1 + (b.length + nd (x ++ r)) := by
      rw [frac_cons, nd_app hb.2, if_pos ⟨rfl, by omega⟩]
    rw [hfr]
    by_cases hxe : x = []
    · subst hxe
      simp only [List.append_nil, List.nil_append, List.length_append, List.length_cons]
      omega
    · obtain ⟨h1, h2⟩ := hx0 x hx hxe
      rw [h1, Nat.add_zero]
      rw [show (a ++ (46 :: (b ++ (x ++ r)))).drop (a.length + (1 + b.length)) = x ++ r by
        rw [← List.drop_drop, List.drop_left, Nat.add_comm 1, List.drop_succ_cons, List.drop_left]]
      have := hxl x hx
      simp only [List.length_append, List.length_cons]
      omega
theorem fr_of (t : List UInt8) : Fr (t.take (frac t)) := by
  rcases t with _ | ⟨c, r⟩
  · exact .inl (by simp)
  · rw [frac_cons]
    split
    · rename_i h
      rw [Nat.add_comm, List.take_succ_cons, c46 h.1]
      exact .inr ⟨_, rfl, dg_nd h.2⟩
    · exact .inl rfl
theorem ex_of (t : List UInt8) : Ex (t.take (expo t)) := by
  rcases t with _ | ⟨c, u⟩
  · exact .inl (by simp)
  · rw [expo_cons]
    split
    · rename_i h
      have hs := (sg1_le u).1
      have hne : u ≠ [] := by rintro rfl; exact h.2 (by decide)
      refine .inr ⟨c, u.take (sg1 u + nd (u.drop (sg1 u))), by rw [show 1 + sg1 u + nd (u.drop (sg1 u)) = (sg1 u + nd (u.drop (sg1 u))) + 1 by omega, List.take_succ_cons], h.1, ?_⟩
      have hst : sg1 (u.take (sg1 u + nd (u.drop (sg1 u)))) = sg1 u := by
        have h2 := h.2
        generalize nd (u.drop (sg1 u)) = m at *
        rcases u with _ | ⟨d, u⟩
        · exact absurd rfl hne
        · obtain ⟨k, hk⟩ : ∃ k, sg1 (d :: u) + m = k + 1 := ⟨sg1 (d :: u) + m - 1, by omega⟩
          rw [hk, List.take_succ_cons, sg1_cons, sg1_cons]
      rw [hst, List.drop_take]
      rw [show sg1 u + nd (u.drop (sg1 u)) - sg1 u = nd (u.drop (sg1 u)) by omega]
      exact dg_nd h.2
    · exact .inl rfl
theorem nm_of {t : List UInt8} (h : ulen t ≠ 0) : Nm (t.take (ulen t)) := by
  unfold ulen at *
  split at h
  · exact absurd rfl h
  · rename_i h0
    rw [if_neg h0]
    refine ⟨t.take (nd t), (t.drop (nd t)).take (frac (t.drop (nd t))), (t.drop (nd t + frac (t.drop (nd t)))).take (expo (t.drop (nd t + frac (t.drop (nd t))))), ?_, dg_nd h0, fr_of _, ex_of _⟩
    rw [List.take_add, List.take_add, List.append_assoc]
theorem sg_parts (u : List UInt8) : (u.take (sg1 u)).all rpart = true := by
  rcases u with _ | ⟨c, u⟩
  · rfl
  · rw [sg1_cons]
    split
    · rename_i h
      simp [rpart]
      rcases h with h | h <;> simp [h]
    · rfl
theorem nm_parts {t : List UInt8} (h : Nm t) : t.all rpart = true := by
  obtain ⟨a, f, x, rfl, ha, hf, hx⟩ := h
  have hd : ∀ b, Dg b → b.all rpart = true := fun b hb => all_mono hb.2 (fun c h => (dg_no h).2.2)
  rw [List.all_append, List.all_append, hd a ha, Bool.true_and, Bool.and_eq_true]
  constructor
  · rcases hf with rfl | ⟨b, rfl, hb⟩
    · rfl
    · rw [List.all_cons, hd b hb]; decide
  · rcases hx with rfl | ⟨e, u, rfl, he, hu⟩
    · rfl
    · rw [List.all_cons, Bool.and_eq_true]
      constructor
      · simp only [isE, decide_eq_true_eq] at he
        simp [rpart]
        rcases he with h | h <;> simp [h]
      · rw [← List.take_append_drop (sg1 u) u, List.all_append, sg_parts, hd _ hu]; rfl
end Go.Proofs.PlatenFigure
