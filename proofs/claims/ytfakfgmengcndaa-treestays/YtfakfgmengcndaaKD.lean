/- A text made of nodes is JSON; it is never too much. -/
import Derived.Test.YtfakfgmengcndaaKC
namespace Go.Proofs.PlatenTree
set_option linter.unusedVariables false
open Go.Proofs.PlatenLayout (lay s0)

theorem atom_good (l : List Nd) (h : l = [] → (hd l).n = 0) : Good l l.tail [(5, nameB (hd l).n)] := by
  have hb : bsum [(5, nameB (hd l).n)] = 0 := rfl
  have ht : totb [(5, nameB (hd l).n)] = (nameB (hd l).n).length := by simp [totb, tb]
  refine ⟨0, by simp, ?_, by rw [hb]; exact Nat.zero_le _⟩
  rw [ht]
  cases l with
  | nil =>
    have : (hd []).n = 0 := rfl
    rw [this]
    decide
  | cons x r =>
    have := name_len (hd (x :: r)).n
    simp only [List.tail_cons, List.length_cons]
    omega
theorem mk_j : ∀ (f : Nat) (l : List Nd) (st : Nat) (S L : List Nat) (k : Nat) (P : List Pc), st = 0 ∨ st = 1 → S.length + f ≤ 512 →
    ∃ u' Q, run JM (mk false f l).1 (⟨st, S, false, L, k⟩, [], P) = some u' ∧ Aft u' S (P ++ Q) ∧ Good l (mk false f l).2 Q
  | 0, l, st, S, L, k, P, hs, hd0 => by
    have hm : jmid st = false := by rcases hs with rfl | rfl <;> rfl
    obtain ⟨u', h1, h2⟩ := name_run (hd l).n st S L k P hs
    exact ⟨u', [(5, nameB (hd l).n)], by
      show run JM (gap false (hd l) ++ nameB (hd l).n) _ = _
      rw [run_gap hm]; exact h1, h2, atom_good l (fun e => by rw [e]; rfl)⟩
  | f + 1, l, st, S, L, k, P, hs, hd0 => by
    have hm : jmid st = false := by rcases hs with rfl | rfl <;> rfl
    unfold mk
    by_cases ha : (hd l).kind % 4 = 0
    · rw [if_pos ha]
      obtain ⟨u', h1, h2⟩ := name_run (hd l).n st S L k P hs
      exact ⟨u', [(5, nameB (hd l).n)], by
        show run JM (gap false (hd l) ++ nameB (hd l).n) _ = _
        rw [run_gap hm]; exact h1, h2, atom_good l (fun e => by rw [e]; rfl)⟩
    rw [if_neg ha]
    obtain ⟨x, r, rfl⟩ : ∃ x r, l = x :: r := by
      cases l with
      | nil => exact absurd rfl ha
      | cons x r => exact ⟨x, r, rfl⟩
    have hhd : hd (x :: r) = x := rfl
    rw [hhd]
    simp only [List.tail_cons]
    have hm4 := Nat.mod_lt x.n (show 0 < 4 by decide)
    have hb : (opn false x = 123 ∧ cls false x = 125 ∧ nmd false x = true) ∨ (opn false x = 91 ∧ cls false x = 93 ∧ nmd false x = false) := by
      unfold opn cls nmd
      by_cases q : x.kind % 4 = 1
      · left; simp [q]
      · right; simp [q]
    obtain ⟨b, hbe⟩ : ∃ b, opn false x = b := ⟨_, rfl⟩
    obtain ⟨e, hce⟩ : ∃ e, cls false x = e := ⟨_, rfl⟩
    obtain ⟨nm, hne⟩ : ∃ nm, nmd false x = nm := ⟨_, rfl⟩
    rw [hbe, hce, hne] at hb ⊢
    obtain ⟨s1, hs1⟩ : ∃ s1, (if b = 123 then 2 else 1) = s1 := ⟨_, rfl⟩
    have hopen : fd JM ((⟨st, S, false, L, k⟩, [], P) : St JM) b = some (⟨s1, b :: S, false, L, k⟩, [], P ++ [(1, [b])]) := by
      have hl : ¬ S.length = 512 := by omega
      have hj : jf0 ⟨st, S, false, L, k⟩ b = .whole 1 ⟨s1, b :: S, false, L, k⟩ := by
        have hbb : b = 123 ∨ b = 91 := by rcases hb with h | h <;> omega
        have hnb : isB b = false := by rcases hbb with rfl | rfl <;> rfl
        have hn93 : b ≠ 93 := by omega
        have hbeg : jbegin ⟨st, S, false, L, k⟩ b = .whole 1 ⟨s1, b :: S, false, L, k⟩ := by
          unfold jbegin
          rw [if_pos hbb, if_neg hl, hs1]
        unfold jf0
        rw [hnb, if_neg (by simp)]
        rcases hs with rfl | rfl
        · rw [if_pos rfl]; exact hbeg
        · rw [if_neg (by simp), if_pos rfl, if_neg hn93]; exact hbeg
      rw [fd_out (M := JM) (s := ((⟨st, S, false, L, k⟩, [], P) : St JM)) hm]
      show app JM (jf0 ⟨st, S, false, L, k⟩ b) _ b = _
      rw [hj]
      rfl
    have hclose : ∀ (P' : List Pc) (u : St JM), Aft u (b :: S) P' → ∃ u', run JM [e] u = some u' ∧ Aft u' S (P' ++ [(2, [e])]) := by
      intro P' u hu
      have hj : ∀ L n, jf0 ⟨5, b :: S, false, L, n⟩ e = .whole 2 ⟨5, S, false, L, n⟩ := by
        intro L n
        rcases hb with ⟨rfl, rfl, _⟩ | ⟨rfl, rfl, _⟩ <;> rfl
      obtain ⟨L', n', h⟩ := one_run (c' := fun L n => ⟨5, S, false, L, n⟩) hu hj []
      exact ⟨_, h, L', n', Or.inl rfl⟩
    have hbx : (nm = true → ∃ T, b :: S = 123 :: T) ∧ (nm = false → ∃ T, b :: S = 91 :: T) := by
      rcases hb with ⟨rfl, _, rfl⟩ | ⟨rfl, _, rfl⟩
      · exact ⟨fun _ => ⟨S, rfl⟩, (fun q => by cases q)⟩
      · exact ⟨(fun q => by cases q), fun _ => ⟨S, rfl⟩⟩
    have ih : ∀ l st L k P, st = 0 ∨ st = 1 → ∃ u' Q, run JM (mk false f l).1 (⟨st, b :: S, false, L, k⟩, [], P) = some u' ∧ Aft u' (b :: S) (P ++ Q) ∧ Good l (mk false f l).2 Q :=
      fun l st L k P h => mk_j f l st (b :: S) L k P h (by rw [List.length_cons]; omega)
    cases hn : x.n % 4 with
    | zero =>
      refine ⟨(⟨5, S, false, L, k⟩, [], (P ++ [(1, [b])]) ++ [(2, [e])]), [(1, [b]), (2, [e])], ?_, ⟨L, k, Or.inl (by simp)⟩, 1, ?_, ?_, ?_⟩
      · show run JM (gap false x ++ (b :: ([] ++ [e]))) _ = _
        rw [run_gap hm, run_cons, hopen]
        show run JM [e] _ = _
        rcases hb with ⟨rfl, rfl, _⟩ | ⟨rfl, rfl, _⟩
        · have : s1 = 2 := by rw [← hs1]; rfl
          subst this; rfl
        · have : s1 = 1 := by rw [← hs1]; rfl
          subst this; rfl
      · show 1 + r.length ≤ (x :: r).length
        rw [List.length_cons]; omega
      · show totb [(1, [b]), (2, [e])] + 8 * r.length ≤ _
        have : totb [(1, [b]), (2, [e])] = 2 := rfl
        rw [this, List.length_cons]; omega
      · have : bsum [(1, [b]), (2, [e])] = 2 := rfl
        rw [this]; omega
    | succ m =>
      have key : ∃ st' N, (st' = 0 ∨ st' = 1) ∧ totb N ≤ 5 ∧ bsum N = 0 ∧ ∀ rest, run JM ((if nm then [34, 107, 34, 32, 58] else []) ++ rest) (⟨s1, b :: S, false, L, k⟩, [], P ++ [(1, [b])]) = run JM rest (⟨st', b :: S, false, L, k⟩, [], (P ++ [(1, [b])]) ++ N) := by
        rcases hb with ⟨rfl, _, rfl⟩ | ⟨rfl, _, rfl⟩
        · have h2 : s1 = 2 := by rw [← hs1]; rfl
          subst h2
          refine ⟨0, [(5, [34, 107, 34]), (4, [58])], Or.inl rfl, by decide, rfl, fun rest => ?_⟩
          rw [if_pos rfl, run_app]
          have e5 : run JM [34, 107, 34, 32, 58] ((⟨2, 123 :: S, false, L, k⟩, [], P ++ [(1, [123])]) : St JM) = some (⟨0, 123 :: S, false, L, k⟩, [], ((P ++ [(1, [123])]) ++ [(5, [34, 107, 34])]) ++ [(4, [58])]) := rfl
          rw [e5]
          simp [List.append_assoc]
        · have h2 : s1 = 1 := by rw [← hs1]; rfl
          subst h2
          exact ⟨1, [], Or.inr rfl, by decide, rfl, fun rest => by rw [if_neg (by simp), List.append_nil]; rfl⟩
      obtain ⟨st', N, hst', hN1, hN2, hrun⟩ := key
      obtain ⟨u1, Q1, r1, a1, lam1, g1, g2, g3⟩ := ih r st' L k ((P ++ [(1, [b])]) ++ N) hst'
      obtain ⟨u2, Q2, r2, a2, lam2, g4, g5, g6⟩ := parts_run f nm (b :: S) ih hbx m (mk false f r).2 u1 _ a1
      obtain ⟨u3, r3, a3⟩ := hclose _ u2 a2
      refine ⟨u3, [(1, [b])] ++ (N ++ (Q1 ++ (Q2 ++ [(2, [e])]))), ?_, by simpa [List.append_assoc] using a3, 1 + lam1 + lam2, ?_, ?_, ?_⟩
      · show run JM (gap false x ++ (b :: (([] ++ ((if nm then [34, 107, 34, 32, 58] else []) ++ ((mk false f r).1 ++ (parts false nm (mk false f) m false (mk false f r).2).1))) ++ [e]))) _ = _
        rw [run_gap hm, run_cons, hopen]
        show run JM ([] ++ ((if nm then [34, 107, 34, 32, 58] else []) ++ ((mk false f r).1 ++ (parts false nm (mk false f) m false (mk false f r).2).1)) ++ [e]) _ = _
        rw [List.nil_append, List.append_assoc, hrun, List.append_assoc, run_app, r1]
        show run JM ((parts false nm (mk false f) m false (mk false f r).2).1 ++ [e]) u1 = _
        rw [run_app, r2]
        exact r3
      · show 1 + lam1 + lam2 + (parts false nm (mk false f) m false (mk false f r).2).2.length ≤ (x :: r).length
        rw [List.length_cons]; omega
      · show totb ([(1, [b])] ++ (N ++ (Q1 ++ (Q2 ++ [(2, [e])])))) + 8 * (parts false nm (mk false f) m false (mk false f r).2).2.length ≤ _
        have t1 : totb [(1, [b])] = 1 := rfl
        have t2 : totb [(2, [e])] = 1 := rfl
        rw [totb_app, totb_app, totb_app, totb_app, t1, t2, List.length_cons]
        omega
      · have t1 : bsum [(1, [b])] = 1 := rfl
        have t2 : bsum [(2, [e])] = 1 := rfl
        rw [bsum_app, bsum_app, bsum_app, bsum_app, t1, t2]
        omega
theorem brs_bsum : ∀ (P : List Pc) (pk : Nat), brs false pk P ≤ bsum P
  | [], _ => Nat.le_refl _
  | t :: r, pk => by
    have h1 := b0_le false pk t (hk r)
    have h2 := brs_bsum r t.1
    have e : bsum (t :: r) = (if t.1 = 1 ∨ t.1 = 2 ∨ t.1 = 3 then 1 else 0) + bsum r := by simp [bsum]
    rw [brs_cons, e]
    by_cases q : t.1 = 1 ∨ t.1 = 2 ∨ t.1 = 3
    · rw [if_pos q]; omega
    · have : b0 false pk t (hk r) = 0 := by
        unfold b0
        rw [if_neg (by simp), if_neg (by omega), if_neg (by omega), if_neg (by omega)]
      rw [if_neg q, this]; omega
/-- A text made of 40 nodes is JSON, and never too much. -/
theorem grown_j (l : List Nd) (hl : l.length ≤ 40) : ∃ P, rd false (mk false 9 l).1 = some P ∧ totb P ≤ 881 ∧ brs false 0 P ≤ 160 := by
  obtain ⟨u', Q, h1, ⟨L, k, h2⟩, lam, g1, g2, g3⟩ := mk_j 9 l 0 [] [] 0 [] (Or.inl rfl) (by decide)
  have hf := like_fin jm_ok h2 rfl rfl
  have hb := brs_bsum Q 0
  refine ⟨Q, ?_, by omega, by omega⟩
  show read JM j0 (mk false 9 l).1 = some Q
  unfold read
  have h1' : run JM (mk false 9 l).1 (j0, [], []) = some u' := h1
  rw [h1']
  exact hf
theorem grown_room_j (w : Int) (ch : List Nat → Nat) (l : List Nd) (hl : l.length ≤ 40) : ∃ P q, rd false (mk false 9 l).1 = some P ∧ lay w (itms ch false 0 P) s0 = some q := by
  obtain ⟨P, h1, h2, h3⟩ := grown_j l hl
  obtain ⟨q, h4⟩ := room_j w ch P (T := 881) (b := 160) h2 h3 (by decide)
  exact ⟨P, q, h1, h4⟩
end Go.Proofs.PlatenTree

/- A text made of nodes is an S-expression; it is never too much. -/
namespace Go.Proofs.PlatenTree
set_option linter.unusedVariables false
open Go.Proofs.PlatenLayout (lay s0)
open Go.Proofs.PlatenSexp (aft)

def lastD (pk : Nat) : List Pc → Nat
  | [] => pk
  | t :: r => lastD t.1 r
theorem lastD_app (b : List Pc) : ∀ (a : List Pc) (pk : Nat), lastD pk (a ++ b) = lastD (lastD pk a) b
  | [], pk => rfl
  | t :: r, pk => lastD_app b r t.1
theorem brs_app (b : List Pc) : ∀ (a : List Pc) (pk : Nat), brs true pk (a ++ b) = brs true pk a + brs true (lastD pk a) b
  | [], pk => (Nat.zero_add _).symm
  | t :: r, pk => by
    show b0 true pk t (hk (r ++ b)) + brs true t.1 (r ++ b) = (b0 true pk t (hk r) + brs true t.1 r) + brs true (lastD t.1 r) b
    have e : b0 true pk t (hk (r ++ b)) = b0 true pk t (hk r) := rfl
    rw [brs_app b r t.1, e, Nat.add_assoc]
/-- An atom or a closing sign. -/
def E (k : Nat) : Prop := k = 5 ∨ k = 2
def ei (k : Nat) : Nat := if k = 5 ∨ k = 2 then 1 else 0
theorem brs_one (pk : Nat) (t : Pc) : brs true pk [t] = if t.1 ≠ 2 ∧ (pk = 5 ∨ pk = 2) then 1 else 0 := by
  show b0 true pk t 0 + 0 = _
  unfold b0
  rw [if_pos rfl, Nat.add_zero]
def GoodS (l l2 : List Nd) (Q : List Pc) : Prop := ∃ lam, lam + l2.length ≤ l.length ∧ totb Q + 8 * l2.length ≤ 8 * l.length + 3 * lam + 1 ∧ (∀ pk, brs true pk Q ≤ ei pk + 2 * lam) ∧ ∀ pk, E (lastD pk Q)
def GoodSN (m : Nat) (l l2 : List Nd) (Q : List Pc) : Prop := ∃ lam, lam + l2.length ≤ l.length ∧ totb Q + 8 * l2.length ≤ 8 * l.length + 3 * lam + m ∧ (∀ pk, brs true pk Q ≤ m + 2 * lam) ∧ ∀ pk, E pk → E (lastD pk Q)
theorem ei_le (k : Nat) : ei k ≤ 1 := by unfold ei; split <;> omega
set_option maxHeartbeats 8000000 in
theorem name_run_s (n st dep : Nat) (P : List Pc) (hs : st = 0 ∨ st = 1) : ∃ u', run SM (nameB n) ((st, dep), [], P) = some u' ∧ Like SM u' (aft dep, dep) (P ++ [(5, nameB n)]) := by
  have h6 := Nat.mod_lt n (show 0 < 6 by decide)
  unfold nameB
  rcases hs with rfl | rfl
  · match h : n % 6, h6 with
    | 0, _ => exact ⟨_, rfl, Or.inr ⟨_, _, _, _, rfl, rfl, rfl⟩⟩
    | 1, _ => exact ⟨_, rfl, Or.inl rfl⟩
    | 2, _ => exact ⟨_, rfl, Or.inr ⟨_, _, _, _, rfl, rfl, rfl⟩⟩
    | 3, _ => exact ⟨_, rfl, Or.inr ⟨_, _, _, _, rfl, rfl, rfl⟩⟩
    | 4, _ => exact ⟨_, rfl, Or.inl rfl⟩
    | 5, _ => exact ⟨_, rfl, Or.inr ⟨_, _, _, _, rfl, rfl, rfl⟩⟩
  · match h : n % 6, h6 with
    | 0, _ => exact ⟨_, rfl, Or.inr ⟨_, _, _, _, rfl, rfl, rfl⟩⟩
    | 1, _ => exact ⟨_, rfl, Or.inl rfl⟩
    | 2, _ => exact ⟨_, rfl, Or.inr ⟨_, _, _, _, rfl, rfl, rfl⟩⟩
    | 3, _ => exact ⟨_, rfl, Or.inr ⟨_, _, _, _, rfl, rfl, rfl⟩⟩
    | 4, _ => exact ⟨_, rfl, Or.inl rfl⟩
    | 5, _ => exact ⟨_, rfl, Or.inr ⟨_, _, _, _, rfl, rfl, rfl⟩⟩
/-- What stands ahead of an expression: blanks, quotes. -/
theorem gap_run_s (x : Nd) (st dep : Nat) (P : List Pc) (hs : st = 0 ∨ st = 1) : ∃ st' N, (st' = 0 ∨ st' = 1) ∧ totb N ≤ 2 ∧ (∀ pk, brs true pk N ≤ ei pk) ∧ (N = [] ∨ ∀ pk, lastD pk N = 6) ∧ (x.kind = 0 → x.n = 0 → N = []) ∧
    ∀ rest, run SM (gap true x ++ rest) ((st, dep), [], P) = run SM rest ((st', dep), [], P ++ N) := by
  have hm : SM.mid ((st, dep) : Nat × Nat) = false := by rcases hs with rfl | rfl <;> rfl
  obtain ⟨B, hB⟩ : ∃ B, (if 12 ≤ x.n % 16 then [10, 32] else []) = B := ⟨_, rfl⟩
  have hb1 : ∀ rest, run SM (B ++ rest) ((st, dep), [], P) = run SM rest ((st, dep), [], P) := by
    intro rest
    rw [← hB]
    split
    · rcases hs with rfl | rfl <;> rfl
    · rfl
  have one : ∀ (t : Pc), t.1 = 6 → (∀ pk, brs true pk [t] ≤ ei pk) ∧ ∀ pk, lastD pk [t] = 6 := by
    intro t ht
    refine ⟨fun pk => ?_, fun pk => ht⟩
    rw [brs_one]
    unfold ei
    split
    · rename_i q; rw [if_pos q.2]; exact Nat.le_refl _
    · exact Nat.zero_le _
  by_cases k7 : x.kind % 8 = 7
  · refine ⟨0, [(6, [44, 64])], Or.inl rfl, by decide, (one _ rfl).1, Or.inr (one _ rfl).2, fun q _ => by omega, fun rest => ?_⟩
    have eg : gap true x = B ++ [44, 64] := by unfold gap; rw [hB]; simp [k7]
    rw [eg, List.append_assoc, hb1]
    rcases hs with rfl | rfl <;> rfl
  by_cases k6 : x.kind % 8 = 6
  · refine ⟨0, [(6, [39])], Or.inl rfl, by decide, (one _ rfl).1, Or.inr (one _ rfl).2, fun q _ => by omega, fun rest => ?_⟩
    have eg : gap true x = B ++ [39, 32] := by unfold gap; rw [hB]; simp [k6]
    rw [eg, List.append_assoc, hb1]
    rcases hs with rfl | rfl <;> rfl
  · refine ⟨st, [], hs, by decide, fun pk => Nat.zero_le _, Or.inl rfl, fun _ _ => rfl, fun rest => ?_⟩
    have eg : gap true x = B := by unfold gap; rw [hB]; simp [k6, k7]
    rw [eg, hb1, List.append_nil]
theorem E_ei {k : Nat} (h : E k) : ei k = 1 := if_pos h
theorem brs_N {N : List Pc} (hN : N = [] ∨ ∀ pk, lastD pk N = 6) (hb : ∀ pk, brs true pk N ≤ ei pk) (t : Pc) (pk : Nat) : brs true pk (N ++ [t]) ≤ ei pk := by
  rw [brs_app, brs_one]
  rcases hN with rfl | h
  · show 0 + (if t.1 ≠ 2 ∧ (pk = 5 ∨ pk = 2) then 1 else 0) ≤ ei pk
    unfold ei
    split
    · rename_i q; rw [if_pos q.2]; exact Nat.le_refl _
    · omega
  · rw [h pk, if_neg (by omega)]
    exact hb pk
theorem atom_s (l : List Nd) (st dep : Nat) (P : List Pc) (hs : st = 0 ∨ st = 1) : ∃ u' Q, run SM (gap true (hd l) ++ nameB (hd l).n) ((st, dep), [], P) = some u' ∧ Like SM u' (aft dep, dep) (P ++ Q) ∧ GoodS l l.tail Q := by
  obtain ⟨st', N, h1, h2, h3, h4, h5, h6⟩ := gap_run_s (hd l) st dep P hs
  obtain ⟨u', r1, r2⟩ := name_run_s (hd l).n st' dep (P ++ N) h1
  refine ⟨u', N ++ [(5, nameB (hd l).n)], by rw [h6]; exact r1, by rw [← List.append_assoc]; exact r2, 0, by simp, ?_, fun pk => ?_, fun pk => ?_⟩
  · have ht : totb [(5, nameB (hd l).n)] = (nameB (hd l).n).length := by simp [totb, tb]
    rw [totb_app, ht]
    cases l with
    | nil =>
      have : N = [] := h5 rfl rfl
      rw [this]
      decide
    | cons x r =>
      have := name_len (hd (x :: r)).n
      simp only [List.tail_cons, List.length_cons]
      omega
  · have := brs_N h4 h3 (5, nameB (hd l).n) pk
    omega
  · rw [lastD_app]
    exact Or.inl rfl
theorem blank_s {u : St SM} {dep : Nat} {P : List Pc} (h : Like SM u (aft dep, dep) P) (rest : List Nat) : run SM (32 :: rest) u = run SM rest ((aft dep, dep), [], P) := by
  obtain ⟨u', h1, h2, h3, h4⟩ := blanks_run sm_ok (bs := [32]) (fun b hb => by simp at hb; rw [hb]; rfl) (show SM.mid ((aft dep, dep) : Nat × Nat) = false from aft_mid dep) u h
  show run SM ([32] ++ rest) u = _
  rw [run_app, h1, h3 (by simp)]
theorem parts_s (f dep : Nat) (hdp : 0 < dep)
    (ih : ∀ l st P, st = 0 ∨ st = 1 → ∃ u' Q, run SM (mk true f l).1 ((st, dep), [], P) = some u' ∧ Like SM u' (aft dep, dep) (P ++ Q) ∧ GoodS l (mk true f l).2 Q) : ∀ (m : Nat) (l : List Nd) (u : St SM) (P : List Pc), Like SM u (aft dep, dep) P →
    ∃ u' Q, run SM (parts true false (mk true f) m false l).1 u = some u' ∧ Like SM u' (aft dep, dep) (P ++ Q) ∧ GoodSN m l (parts true false (mk true f) m false l).2 Q
  | 0, l, u, P, h => ⟨u, [], rfl, by rw [List.append_nil]; exact h, 0, by show 0 + l.length ≤ _; omega, by show 0 + 8 * l.length ≤ _; omega, fun _ => Nat.zero_le _, fun _ h => h⟩
  | m + 1, l, u, P, h => by
    have ha : aft dep = 1 := by unfold aft; rw [if_neg (by omega)]
    obtain ⟨u1, Q1, r1, a1, lam1, g1, g2, g3, g7⟩ := ih l (aft dep) P (Or.inr ha)
    obtain ⟨u2, Q2, r2, a2, lam2, g4, g5, g6, g8⟩ := parts_s f dep hdp ih m (mk true f l).2 u1 _ a1
    refine ⟨u2, Q1 ++ Q2, ?_, by rw [← List.append_assoc]; exact a2, lam1 + lam2, ?_, ?_, fun pk => ?_, fun pk hp => ?_⟩
    · show run SM (32 :: ((mk true f l).1 ++ (parts true false (mk true f) m false (mk true f l).2).1)) u = _
      rw [blank_s h, run_app, r1]
      exact r2
    · show lam1 + lam2 + (parts true false (mk true f) m false (mk true f l).2).2.length ≤ l.length
      omega
    · show totb (Q1 ++ Q2) + 8 * (parts true false (mk true f) m false (mk true f l).2).2.length ≤ _
      rw [totb_app]
      omega
    · rw [brs_app]
      have := g3 pk
      have := g6 (lastD pk Q1)
      have := ei_le pk
      omega
    · rw [lastD_app]
      exact g8 _ (g7 pk)
theorem mk_s : ∀ (f : Nat) (l : List Nd) (st dep : Nat) (P : List Pc), st = 0 ∨ st = 1 → dep + f ≤ 512 →
    ∃ u' Q, run SM (mk true f l).1 ((st, dep), [], P) = some u' ∧ Like SM u' (aft dep, dep) (P ++ Q) ∧ GoodS l (mk true f l).2 Q
  | 0, l, st, dep, P, hs, hd0 => atom_s l st dep P hs
  | f + 1, l, st, dep, P, hs, hd0 => by
    unfold mk
    by_cases ha : (hd l).kind % 4 = 0
    · rw [if_pos ha]; exact atom_s l st dep P hs
    rw [if_neg ha]
    obtain ⟨x, r, rfl⟩ : ∃ x r, l = x :: r := by
      cases l with
      | nil => exact absurd rfl ha
      | cons x r => exact ⟨x, r, rfl⟩
    have hhd : hd (x :: r) = x := rfl
    rw [hhd]
    simp only [List.tail_cons]
    have hm4 := Nat.mod_lt x.n (show 0 < 4 by decide)
    obtain ⟨st', N, n1, n2, n3, n4, _, n6⟩ := gap_run_s x st dep P hs
    have hopen : ∀ rest, run SM (40 :: rest) ((st', dep), [], P ++ N) = run SM rest ((1, dep + 1), [], (P ++ N) ++ [(1, [40])]) := by
      intro rest
      rw [run_cons]
      have : fd SM (((st', dep), [], P ++ N) : St SM) 40 = some ((1, dep + 1), [], (P ++ N) ++ [(1, [40])]) := by
        have hl : ¬ dep = 512 := by omega
        have hj : sf0 st' dep 40 = .whole 1 (1, dep + 1) := by
          rcases n1 with rfl | rfl
          · show (if dep = 512 then Rt.bad else _) = _
            rw [if_neg hl]
          · show (if dep = 512 then Rt.bad else _) = _
            rw [if_neg hl]
        rw [fd_out (M := SM) (s := (((st', dep), [], P ++ N) : St SM)) (by rcases n1 with rfl | rfl <;> rfl)]
        show app SM (sf0 st' dep 40) _ 40 = _
        rw [hj]
        rfl
      rw [this]
      rfl
    have hclose : ∀ (P' : List Pc) (u : St SM), Like SM u (aft (dep + 1), dep + 1) P' → ∃ u', run SM [41] u = some u' ∧ Like SM u' (aft dep, dep) (P' ++ [(2, [41])]) := by
      intro P' u hu
      have h1 : aft (dep + 1) = 1 := by unfold aft; rw [if_neg (by omega)]
      rw [h1] at hu
      have := gap_fd sm_ok (u := u) (c := ((1, dep + 1) : Nat × Nat)) (P := P') (b := 41) (bs := []) (s' := (((aft dep, dep), [], P' ++ [(2, [41])]) : St SM)) (fun b hb => by cases hb) rfl hu rfl (by
        show sf0 1 (dep + 1) 41 ≠ _
        intro q; cases q) (fun c'' q => by cases q) []
      exact ⟨_, this, Or.inl rfl⟩
    have ih : ∀ l st P, st = 0 ∨ st = 1 → ∃ u' Q, run SM (mk true f l).1 ((st, dep + 1), [], P) = some u' ∧ Like SM u' (aft (dep + 1), dep + 1) (P ++ Q) ∧ GoodS l (mk true f l).2 Q :=
      fun l st P h => mk_s f l st (dep + 1) P h (by omega)
    have t1 : totb [(1, [40])] = 1 := rfl
    have t2 : totb [(2, [41])] = 1 := rfl
    cases hn : x.n % 4 with
    | zero =>
      refine ⟨((aft dep, dep), [], ((P ++ N) ++ [(1, [40])]) ++ [(2, [41])]), N ++ ([(1, [40])] ++ [(2, [41])]), ?_, Or.inl (by simp [List.append_assoc]), 1, ?_, ?_, fun pk => ?_, fun pk => ?_⟩
      · show run SM (gap true x ++ (40 :: ([] ++ [41]))) _ = _
        rw [n6, hopen]
        rfl
      · show 1 + r.length ≤ (x :: r).length
        rw [List.length_cons]; omega
      · show totb (N ++ ([(1, [40])] ++ [(2, [41])])) + 8 * r.length ≤ _
        rw [totb_app, totb_app, t1, t2, List.length_cons]; omega
      · rw [← List.append_assoc, brs_app, brs_one, if_neg (fun q => q.1 rfl)]
        have := brs_N n4 n3 (1, [40]) pk
        omega
      · rw [lastD_app]; exact Or.inr rfl
    | succ m =>
      obtain ⟨u1, Q1, r1, a1, lam1, g1, g2, g3, g7⟩ := ih r 1 ((P ++ N) ++ [(1, [40])]) (Or.inr rfl)
      obtain ⟨u2, Q2, r2, a2, lam2, g4, g5, g6, g8⟩ := parts_s f (dep + 1) (by omega) ih m (mk true f r).2 u1 _ a1
      obtain ⟨u3, r3, a3⟩ := hclose _ u2 a2
      refine ⟨u3, (N ++ [(1, [40])]) ++ (Q1 ++ (Q2 ++ [(2, [41])])), ?_, by simpa [List.append_assoc] using a3, 1 + lam1 + lam2, ?_, ?_, fun pk => ?_, fun pk => ?_⟩
      · show run SM (gap true x ++ (40 :: (([] ++ ([] ++ ((mk true f r).1 ++ (parts true false (mk true f) m false (mk true f r).2).1))) ++ [41]))) _ = _
        rw [n6, hopen, List.nil_append, List.nil_append, List.append_assoc, run_app, r1]
        show run SM ((parts true false (mk true f) m false (mk true f r).2).1 ++ [41]) u1 = _
        rw [run_app, r2]
        exact r3
      · show 1 + lam1 + lam2 + (parts true false (mk true f) m false (mk true f r).2).2.length ≤ (x :: r).length
        rw [List.length_cons]; omega
      · show totb ((N ++ [(1, [40])]) ++ (Q1 ++ (Q2 ++ [(2, [41])]))) + 8 * (parts true false (mk true f) m false (mk true f r).2).2.length ≤ _
        rw [totb_app, totb_app, totb_app, totb_app, t1, t2, List.length_cons]
        omega
      · have h1 := brs_N n4 n3 (1, [40]) pk
        have h2 : lastD pk (N ++ [(1, [40])]) = 1 := by rw [lastD_app]; rfl
        have h3 := g3 1
        have h4 : ei 1 = 0 := rfl
        have h5 := g6 (lastD 1 Q1)
        have h6 : ∀ z, brs true z [(2, [41])] = 0 := fun z => by rw [brs_one]; exact if_neg (fun q => q.1 rfl)
        rw [brs_app _ (N ++ [(1, [40])]), h2, brs_app _ Q1, brs_app _ Q2, h6]
        omega
      · rw [lastD_app, lastD_app, lastD_app]; exact Or.inr rfl
/-- A text made of 40 nodes is an S-expression, and never too much. -/
theorem grown_s (l : List Nd) (hl : l.length ≤ 40) : ∃ P, rd true (mk true 9 l).1 = some P ∧ totb P ≤ 441 ∧ brs true 0 P ≤ 80 := by
  obtain ⟨u', Q, h1, h2, lam, g1, g2, g3, _⟩ := mk_s 9 l 0 0 [] (Or.inl rfl) (by decide)
  have hf := like_fin sm_ok h2 rfl rfl
  have hb := g3 0
  have h0 : ei 0 = 0 := rfl
  refine ⟨Q, ?_, by omega, by omega⟩
  show read SM (0, 0) (mk true 9 l).1 = some Q
  unfold read
  rw [h1]
  exact hf
theorem grown_room (s : Bool) (w : Int) (ch : List Nat → Nat) (hch : ∀ x, ch x ≤ x.length) (l : List Nd) (hl : l.length ≤ 40) : ∃ P q, rd s (mk s 9 l).1 = some P ∧ lay w (itms ch s 0 P) s0 = some q := by
  cases s with
  | false => exact grown_room_j w ch l hl
  | true =>
    obtain ⟨P, h1, h2, h3⟩ := grown_s l hl
    obtain ⟨q, h4⟩ := room_s w ch hch P (sread_noc h1) (T := 441) (b := 80) h2 h3 (by decide)
    exact ⟨P, q, h1, h4⟩
end Go.Proofs.PlatenTree

/- A text put together of tokens, one by one, with blanks between. -/
namespace Go.Proofs.PlatenTree
set_option linter.unusedVariables false

/-- The first i tokens, each with its gap ahead. -/
def pref (g : Nat → List Nat) (P : List Pc) : Nat → List Nat
  | 0 => []
  | i + 1 => pref g P i ++ (g i ++ (match P[i]? with | some t => t.2 | none => []))
theorem pref_succ (g : Nat → List Nat) (P : List Pc) {i : Nat} {t : Pc} (h : P[i]? = some t) : pref g P (i + 1) = pref g P i ++ (g i ++ t.2) := by
  show pref g P i ++ (g i ++ (match P[i]? with | some t => t.2 | none => [])) = _
  rw [h]
theorem pref_glue (g : Nat → List Nat) (P : List Pc) : ∀ (m i : Nat), m + i = P.length → pref g P i ++ glue g i (P.drop i) = pref g P P.length ++ g P.length
  | 0, i, h => by
    obtain rfl : i = P.length := by omega
    rw [List.drop_length]
    rfl
  | m + 1, i, h => by
    have hi : i < P.length := by omega
    have ih := pref_glue g P m (i + 1) (by omega)
    rw [List.drop_eq_getElem_cons hi]
    show pref g P i ++ (g i ++ (P[i].2 ++ glue g (i + 1) (P.drop (i + 1)))) = _
    rw [← ih, pref_succ g P (List.getElem?_eq_getElem hi)]
    simp [List.append_assoc]
theorem glue_pref (g : Nat → List Nat) (P : List Pc) (h : g P.length = []) : glue g 0 P = pref g P P.length := by
  have := pref_glue g P P.length 0 (by omega)
  rw [h, List.append_nil, List.drop_zero] at this
  exact this
/-- Two atoms beside one another keep a gap, where each atom behind the first token has one. -/
theorem aj_of (a : Bool) (g : Nat → List Nat) : ∀ (P : List Pc) (pk k : Nat), (pk = 5 → 0 < k) → (∀ i t, P[i]? = some t → a = true → 0 < k + i → t.1 = 5 → g (k + i) ≠ []) → Aj a g pk k P
  | [], pk, k, h0, h => trivial
  | t :: r, pk, k, h0, h => by
    refine ⟨fun h1 h2 h3 => ?_, aj_of a g r t.1 (k + 1) (fun _ => by omega) (fun i x hx h1 _ h3 => ?_)⟩
    · have := h 0 t rfl h1 (by have := h0 h2; omega) h3
      exact this
    · have := h (i + 1) x hx h1 (by omega) h3
      rw [show k + (i + 1) = k + 1 + i by omega] at this
      exact this
/-- The law's text of tokens: read as the same. -/
theorem blanks_read {s : Bool} {g : Nat → List Nat} {p : List Nat} {P : List Pc} (h : rd s p = some P) (hg : ∀ k, ∀ b ∈ g k, isB b = true) (hend : g P.length = []) (ha : ∀ i t, P[i]? = some t → s = true → 0 < i → t.1 = 5 → g i ≠ []) : rd s (pref g P P.length) = some P := by
  rw [← glue_pref g P hend]
  exact rd_glue hg h (aj_of s g P 0 0 (fun h => by cases h) (fun i t h1 h2 h3 h4 => by
    rw [Nat.zero_add] at h3 ⊢
    exact ha i t h1 h2 h3 h4))
end Go.Proofs.PlatenTree

/- Each token has a byte; how many items there are. -/
namespace Go.Proofs.PlatenTree
set_option linter.unusedVariables false
open Go.Proofs.PlatenLayout (It Ly lay stepL s0 sp most)

/-- No token is without bytes, nor is what one is within. -/
def Ne (M : Mach) (s : St M) : Prop := (M.mid s.1 = true → s.2.1 ≠ []) ∧ ∀ t ∈ s.2.2, t.2 ≠ []
section
variable {M : Mach} (hM : Ok M)
theorem ne_snoc {P : List Pc} {x : Pc} (h : ∀ t ∈ P, t.2 ≠ []) (hx : x.2 ≠ []) : ∀ t ∈ P ++ [x], t.2 ≠ [] := fun t ht => by
  rcases List.mem_append.1 ht with ht | ht
  · exact h t ht
  · simp at ht; rw [ht]; exact hx
include hM
theorem app0_ne {s s' : St M} {b : Nat} (hs : ∀ t ∈ s.2.2, t.2 ≠ []) (hm : M.mid s.1 = false) (h : app M (M.f0 s.1 b) s b = some s') : Ne M s' := by
  cases hf : M.f0 s.1 b with
  | bad => rw [hf] at h; simp [app] at h
  | blank => rw [hf] at h; simp [app] at h; rw [← h]; exact ⟨fun q => (by rw [hm] at q; cases q), hs⟩
  | more c => exact absurd hf (hM.m0 _ _ _)
  | last k c => exact absurd hf (hM.l0 _ _ _ _)
  | start c => rw [hf] at h; simp [app] at h; rw [← h]; exact ⟨fun _ => by simp, hs⟩
  | whole k c => rw [hf] at h; simp [app] at h; rw [← h]; exact ⟨fun q => (by have hw := hM.w0 _ _ _ _ hf; have q : M.mid c = true := q; rw [hw] at q; cases q), ne_snoc hs (by simp)⟩
theorem fd_ne {s s' : St M} {b : Nat} (hs : Ne M s) (h : fd M s b = some s') : Ne M s' := by
  cases hm : M.mid s.1 with
  | false => rw [fd_out hm] at h; exact app0_ne hM hs.2 hm h
  | true =>
    have hn := hs.1 hm
    cases h1 : M.f1 s.1 b with
    | some r =>
      rw [fd_some hm h1] at h
      cases r with
      | bad => simp [app] at h
      | blank => exact absurd h1 (hM.b1 _ _)
      | start c => exact absurd h1 (hM.s1 _ _ _)
      | whole k c => exact absurd h1 (hM.w1 _ _ _ _)
      | more c => simp [app] at h; rw [← h]; exact ⟨fun _ => by simp, hs.2⟩
      | last k c =>
        simp [app] at h
        rw [← h]
        exact ⟨fun q => (by have hw := (hM.l1 _ _ _ _ h1).1; have q : M.mid c = true := q; rw [hw] at q; cases q), ne_snoc hs.2 (by simp)⟩
    | none =>
      cases hz : M.lz s.1 with
      | none => simp [fd, hm, h1, hz] at h
      | some kc =>
        obtain ⟨k, c⟩ := kc
        rw [fd_lazy hm h1 hz] at h
        exact app0_ne hM (s := (c, [], s.2.2 ++ [(k, s.2.1)])) (ne_snoc hs.2 hn) (hM.lzm _ _ _ hz).2.1 h
theorem run_ne : ∀ (p : List Nat) (s s' : St M), Ne M s → run M p s = some s' → Ne M s'
  | [], s, s', hs, h => by injection h with h; rw [← h]; exact hs
  | b :: r, s, s', hs, h => by
    rw [run_cons] at h
    cases hf : fd M s b with
    | none => rw [hf] at h; cases h
    | some s2 => rw [hf] at h; exact run_ne r s2 s' (fd_ne hM hs hf) h
theorem read_ne {c : M.C} (hc : M.mid c = false) {p : List Nat} {P : List Pc} (h : read M c p = some P) : ∀ t ∈ P, t.2 ≠ [] := by
  unfold read at h
  cases hr : run M p (c, [], []) with
  | none => rw [hr] at h; cases h
  | some sf =>
    rw [hr] at h
    have hw := run_ne hM p _ sf ⟨fun q => (by have q : M.mid c = true := q; rw [hc] at q; cases q), fun t ht => (by cases ht)⟩ hr
    have h : fin M sf = some P := h
    cases hm : M.mid sf.1 with
    | false =>
      rw [fin_out hm] at h
      split at h
      · injection h with h; rw [← h]; exact hw.2
      · cases h
    | true =>
      cases hz : M.lz sf.1 with
      | none => rw [fin_mid hm hz] at h; cases h
      | some kc =>
        obtain ⟨k, c'⟩ := kc
        rw [fin_lazy hm hz] at h
        split at h
        · injection h with h
          rw [← h]
          exact ne_snoc hw.2 (hw.1 hm)
        · cases h
end
theorem rd_ne {s : Bool} {p : List Nat} {P : List Pc} (h : rd s p = some P) : ∀ t ∈ P, t.2 ≠ [] := by
  cases s with
  | true => exact read_ne sm_ok (c := ((0, 0) : Nat × Nat)) rfl h
  | false => exact read_ne jm_ok (c := j0) rfl h
theorem len_totb : ∀ (P : List Pc), (∀ t ∈ P, t.2 ≠ []) → P.length ≤ totb P
  | [], _ => Nat.le_refl _
  | t :: r, h => by
    have h1 := len_totb r (fun x hx => h x (by simp [hx]))
    have h2 : 1 ≤ t.2.length := List.length_pos_iff.2 (h t (by simp))
    rw [totb_cons, List.length_cons]
    omega
/-- How many items: a token, two for each break at most. -/
theorem itms_len (ch : List Nat → Nat) (s : Bool) : ∀ (P : List Pc) (pk : Nat), (itms ch s pk P).length ≤ 3 * P.length ∧ (s = false → (itms ch s pk P).length ≤ P.length + 2 * brs false pk P)
  | [], pk => ⟨Nat.zero_le _, fun _ => Nat.zero_le _⟩
  | t :: r, pk => by
    obtain ⟨i1, i2⟩ := itms_len ch s r t.1
    rw [itms_cons, List.length_append, List.length_cons, List.length_append, List.length_cons]
    have key : (pre s pk t).length + (post s pk t (hk r)).length ≤ 2 ∧ (s = false → (pre s pk t).length + (post s pk t (hk r)).length ≤ 2 * b0 false pk t (hk r)) := by
      unfold pre post b0
      by_cases k1 : t.1 = 1
      · cases s <;> by_cases hn : hk r = 2 <;> simp [k1, hn] <;> (try split) <;> simp
      by_cases k2 : t.1 = 2
      · cases s <;> by_cases hp : pk = 1 <;> simp [k2, hp]
      by_cases k3 : t.1 = 3
      · cases s <;> simp [k3] <;> (try split) <;> simp
      · cases s <;> simp [k1, k2, k3] <;> (try split) <;> simp
    refine ⟨by omega, fun hs => ?_⟩
    have := i2 hs
    have := key.2 hs
    rw [brs_cons]
    omega
end Go.Proofs.PlatenTree

/- A text of 300 bytes is never too much: JSON. -/
namespace Go.Proofs.PlatenTree
set_option linter.unusedVariables false
open Go.Proofs.PlatenLayout (It Ly Gr lay stepL s0 sp most)

/-- Each group stands in no further than twice as many as are around it. -/
def Stk : List Gr → Prop
  | [] => True
  | g :: r => g.ind ≤ ((2 * r.length : Nat) : Int) ∧ Stk r
theorem lay_step {w : Int} {s : Ly} {x : It} {r : List It} (h : (stepL w s x r).p.length ≤ most) : lay w (x :: r) s = lay w r (stepL w s x r) := by
  show (if most < (stepL w s x r).p.length then none else lay w r (stepL w s x r)) = _
  rw [if_neg (by omega)]
theorem e_text (ch : List Nat → Nat) (w : Int) (s : Ly) (x : List Nat) (r : List It) : stepL w s (txt ch x) r = { s with p := s.p ++ x, col := s.col + (Go.Proofs.PlatenLayout.size (txt ch x :: r) : Nat) } := by
  unfold stepL
  rw [if_pos (show (txt ch x).kind = 1 from rfl)]
  rfl
theorem st_text {ch : List Nat → Nat} {w : Int} {s : Ly} {x : List Nat} {r : List It} : (stepL w s (txt ch x) r).p.length = s.p.length + x.length ∧ (stepL w s (txt ch x) r).g = s.g ∧ (stepL w s (txt ch x) r).gs = s.gs := by
  rw [e_text]
  exact ⟨by show (s.p ++ x).length = _; rw [List.length_append], rfl, rfl⟩
theorem k31 : ¬ ((3 : Nat) = 1) := by decide
theorem k41 : ¬ ((4 : Nat) = 1) := by decide
theorem k43 : ¬ ((4 : Nat) = 3) := by decide
theorem k21 : ¬ ((2 : Nat) = 1) := by decide
theorem k23 : ¬ ((2 : Nat) = 3) := by decide
theorem k24 : ¬ ((2 : Nat) = 4) := by decide
theorem st_bgn {w : Int} {s : Ly} {r : List It} : (stepL w s (bgn 2 false true) r).p = s.p ∧ (stepL w s (bgn 2 false true) r).gs = s.g :: s.gs ∧ (stepL w s (bgn 2 false true) r).g.ind = s.g.ind + 2 := by
  unfold stepL
  rw [if_neg (show ¬ (bgn 2 false true).kind = 1 from k31), if_pos (show (bgn 2 false true).kind = 3 from rfl)]
  exact ⟨rfl, rfl, rfl⟩
theorem st_en {w : Int} {s : Ly} {r : List It} (h : Stk (s.g :: s.gs)) : (stepL w s en r).p = s.p ∧ (stepL w s en r).gs.length = s.gs.length - 1 ∧ Stk ((stepL w s en r).g :: (stepL w s en r).gs) := by
  unfold stepL
  rw [if_neg (show ¬ en.kind = 1 from k41), if_neg (show ¬ en.kind = 3 from k43), if_pos (show en.kind = 4 from rfl)]
  cases hq : s.gs with
  | nil => exact ⟨rfl, by show s.gs.length = _; rw [hq]; rfl, h⟩
  | cons y t => rw [hq] at h; exact ⟨rfl, rfl, h.2⟩
/-- A break: so many bytes, where the group stands in so far. -/
theorem st_bk {w : Int} {s : Ly} {r : List It} {n off : Int} {d : Nat} (hi : s.g.ind ≤ (d : Nat)) (ho : off ≤ 0) (hn : n ≤ 1) : (stepL w s (bk n off) r).p.length ≤ s.p.length + 1 + ((d : Int) + off).toNat ∧ (stepL w s (bk n off) r).g = s.g ∧ (stepL w s (bk n off) r).gs = s.gs := by
  unfold stepL
  rw [if_neg (show ¬ (bk n off).kind = 1 from k21), if_neg (show ¬ (bk n off).kind = 3 from k23), if_neg (show ¬ (bk n off).kind = 4 from k24), if_pos (show (bk n off).kind = 2 from rfl)]
  split
  · refine ⟨?_, rfl, rfl⟩
    show (s.p ++ sp n.toNat).length ≤ _
    rw [List.length_append, show (sp n.toNat).length = n.toNat from List.length_replicate]
    omega
  · refine ⟨?_, rfl, rfl⟩
    show (s.p ++ [10] ++ sp (s.g.ind + off).toNat).length ≤ _
    rw [List.length_append, List.length_append, show (sp (s.g.ind + off).toNat).length = (s.g.ind + off).toNat from List.length_replicate]
    simp
    omega
/-- Twice how many may be open behind one of 300 tokens, of which so many are left, all of them told. -/
def most2 : Nat → Nat
  | 0 => 0
  | m + 1 => 2 * min m (300 - m) + most2 m
theorem most2_300 : most2 300 = 45000 := by decide +kernel
theorem wn_le : ∀ (P : List Pc) (o : Nat), wnF o P = some 0 → o ≤ P.length
  | [], o, h => by injection h with h; omega
  | t :: r, o, h => by
    unfold wnF at h
    cases hs : wnS t.1 o with
    | none => rw [hs] at h; cases h
    | some o' =>
      rw [hs] at h
      have := wn_le r o' h
      rw [List.length_cons]
      unfold wnS at hs
      split at hs
      · injection hs; omega
      · split at hs
        · split at hs
          · cases hs
          · injection hs; omega
        · split at hs
          · split at hs
            · cases hs
            · injection hs; omega
          · injection hs; omega
theorem lay_j (w : Int) (ch : List Nat → Nat) : ∀ (P : List Pc) (pk o : Nat) (s : Ly), wnF o P = some 0 → (if pk = 1 ∧ hk P = 2 then s.gs.length + 1 ≤ o else s.gs.length ≤ o) → Stk (s.g :: s.gs) → o + P.length ≤ 300 →
    s.p.length + totb P + 2 * P.length + most2 P.length ≤ most → ∃ q, lay w (itms ch false pk P) s = some q
  | [], pk, o, s, _, _, _, _, _ => ⟨s.p, rfl⟩
  | t :: r, pk, o, s, hw, hd, hk', ho, hm => by
    have hwr := hw
    unfold wnF at hwr
    cases hs : wnS t.1 o with
    | none => rw [hs] at hwr; cases hwr
    | some o' =>
      rw [hs] at hwr
      have hwr : wnF o' r = some 0 := hwr
      have hol := wn_le r o' hwr
      have ht : (itx ch t).tx.length = t.2.length + (tb t).length := by show (t.2 ++ tb t).length = _; rw [List.length_append]
      have hmr : most2 (r.length + 1) = 2 * min r.length (300 - r.length) + most2 r.length := rfl
      rw [totb_cons, List.length_cons, hmr] at hm
      rw [List.length_cons] at ho
      rw [itms_cons]
      have go : ∀ s' : Ly, s'.p.length ≤ s.p.length + (t.2.length + (tb t).length) + 2 + 2 * min r.length (300 - r.length) → (if t.1 = 1 ∧ hk r = 2 then s'.gs.length + 1 ≤ o' else s'.gs.length ≤ o') → Stk (s'.g :: s'.gs) → o' + r.length ≤ 300 → ∃ q, lay w (itms ch false t.1 r) s' = some q :=
        fun s' h1 h2 h3 h4 => lay_j w ch r t.1 o' s' hwr h2 h3 h4 (by omega)
      by_cases k1 : t.1 = 1
      · have hso : o' = o + 1 := by unfold wnS at hs; rw [if_pos k1] at hs; injection hs with hs; exact hs.symm
        have e1 : pre false pk t = [] := by unfold pre; rw [if_neg (by simp), if_neg (by omega)]
        have hdo : s.gs.length ≤ o := by split at hd <;> omega
        rw [e1, List.nil_append]
        obtain ⟨a1, a2, a3⟩ := st_text (ch := ch) (w := w) (s := s) (x := t.2 ++ tb t) (r := post false pk t (hk r) ++ itms ch false t.1 r)
        rw [List.length_append] at a1
        rw [show itx ch t = txt ch (t.2 ++ tb t) from rfl, lay_step (by rw [a1]; omega)]
        generalize stepL w s (txt ch (t.2 ++ tb t)) _ = s1 at a1 a2 a3 ⊢
        by_cases hn : hk r = 2
        · have e2 : post false pk t (hk r) = [] := by unfold post; rw [if_neg (by omega), if_neg (by omega), if_neg (by omega)]
          rw [e2, List.nil_append]
          refine go s1 (by omega) ?_ (by rw [a2, a3]; exact hk') (by omega)
          rw [if_pos ⟨k1, hn⟩, a3]; omega
        · have e2 : post false pk t (hk r) = [bgn 2 false true, bk 0 0] := by unfold post; rw [if_pos ⟨k1, hn⟩]; rfl
          rw [e2]
          show ∃ q, lay w (bgn 2 false true :: bk 0 0 :: itms ch false t.1 r) s1 = some q
          obtain ⟨b1, b2, b3⟩ := st_bgn (w := w) (s := s1) (r := bk 0 0 :: itms ch false t.1 r)
          rw [lay_step (by rw [b1, a1]; omega)]
          generalize stepL w s1 (bgn 2 false true) _ = s2 at b1 b2 b3 ⊢
          have hl2 : s2.gs.length = s.gs.length + 1 := by rw [b2, List.length_cons, a3]
          have hi2 : s2.g.ind ≤ ((2 * (s.gs.length + 1) : Nat) : Int) := by rw [b3, a2]; have := hk'.1; omega
          obtain ⟨c1, c2, c3⟩ := st_bk (w := w) (s := s2) (r := itms ch false t.1 r) (n := 0) (off := 0) hi2 (by decide) (by decide)
          rw [b1, a1] at c1
          have hmin : 2 * (s.gs.length + 1) ≤ 2 * min r.length (300 - r.length) := by omega
          rw [lay_step (by omega)]
          refine go _ (by omega) ?_ ?_ (by omega)
          · rw [if_neg (by omega), c3, hl2]; omega
          · rw [c2, c3]; refine ⟨?_, ?_⟩
            · rw [hl2]; exact hi2
            · rw [b2, a2, a3]; exact hk'
      by_cases k2 : t.1 = 2
      · have hso : o' + 1 = o := by
          unfold wnS at hs
          rw [if_neg k1, if_pos k2] at hs
          split at hs
          · cases hs
          · injection hs with hs; omega
        by_cases hp : pk = 1
        · have e1 : pre false pk t = [] := by unfold pre; rw [if_neg (by simp), if_neg (by omega)]
          have e2 : post false pk t (hk r) = [] := by unfold post; rw [if_neg (by omega), if_neg (by omega), if_neg (by omega)]
          have hdo : s.gs.length + 1 ≤ o := by rw [if_pos ⟨hp, k2⟩] at hd; exact hd
          rw [e1, e2, List.nil_append, List.nil_append]
          obtain ⟨a1, a2, a3⟩ := st_text (ch := ch) (w := w) (s := s) (x := t.2 ++ tb t) (r := itms ch false t.1 r)
          rw [List.length_append] at a1
          rw [show itx ch t = txt ch (t.2 ++ tb t) from rfl, lay_step (by rw [a1]; omega)]
          refine go _ (by omega) ?_ (by rw [a2, a3]; exact hk') (by omega)
          rw [if_neg (by omega), a3]; omega
        · have e1 : pre false pk t = [bk 0 (-2)] := by unfold pre; rw [if_neg (by simp), if_pos ⟨rfl, k2, hp⟩]
          have e2 : post false pk t (hk r) = [en] := by unfold post; rw [if_neg (by omega), if_pos ⟨k2, hp⟩]
          have hdo : s.gs.length ≤ o := by rw [if_neg (by omega)] at hd; exact hd
          rw [e1, e2]
          show ∃ q, lay w (bk 0 (-2) :: itx ch t :: en :: itms ch false t.1 r) s = some q
          obtain ⟨c1, c2, c3⟩ := st_bk (w := w) (s := s) (r := itx ch t :: en :: itms ch false t.1 r) (n := 0) (off := -2) hk'.1 (by decide) (by decide)
          have hmin : ((2 * s.gs.length : Nat) : Int) + -2 ≤ ((2 * min r.length (300 - r.length) : Nat) : Int) := by omega
          have hmin2 : ((((2 * s.gs.length : Nat) : Int) + -2).toNat) ≤ 2 * min r.length (300 - r.length) := by omega
          rw [lay_step (by omega)]
          generalize stepL w s (bk 0 (-2)) _ = s1 at c1 c2 c3 ⊢
          obtain ⟨a1, a2, a3⟩ := st_text (ch := ch) (w := w) (s := s1) (x := t.2 ++ tb t) (r := en :: itms ch false t.1 r)
          rw [List.length_append] at a1
          rw [show itx ch t = txt ch (t.2 ++ tb t) from rfl, lay_step (by rw [a1]; omega)]
          generalize stepL w s1 (txt ch (t.2 ++ tb t)) _ = s2 at a1 a2 a3 ⊢
          obtain ⟨d1, d2, d3⟩ := st_en (w := w) (s := s2) (r := itms ch false t.1 r) (by rw [a2, a3, c2, c3]; exact hk')
          rw [lay_step (by rw [d1]; omega)]
          refine go _ (by rw [d1]; omega) ?_ d3 (by omega)
          rw [if_neg (by omega), d2, a3, c3]; omega
      · have e1 : pre false pk t = [] := by unfold pre; rw [if_neg (by simp), if_neg (by omega)]
        have hdo : s.gs.length ≤ o := by rw [if_neg (by intro q; exact k2 q.2)] at hd; exact hd
        have hso : o' = o := by
          unfold wnS at hs
          rw [if_neg k1, if_neg k2] at hs
          split at hs
          · split at hs
            · cases hs
            · injection hs with hs; exact hs.symm
          · injection hs with hs; exact hs.symm
        rw [e1, List.nil_append]
        obtain ⟨a1, a2, a3⟩ := st_text (ch := ch) (w := w) (s := s) (x := t.2 ++ tb t) (r := post false pk t (hk r) ++ itms ch false t.1 r)
        rw [List.length_append] at a1
        rw [show itx ch t = txt ch (t.2 ++ tb t) from rfl, lay_step (by rw [a1]; omega)]
        generalize stepL w s (txt ch (t.2 ++ tb t)) _ = s1 at a1 a2 a3 ⊢
        by_cases k3 : t.1 = 3
        · have e2 : post false pk t (hk r) = [bk 1 0] := by unfold post; rw [if_neg (by omega), if_neg (by omega), if_pos k3]
          rw [e2]
          show ∃ q, lay w (bk 1 0 :: itms ch false t.1 r) s1 = some q
          obtain ⟨c1, c2, c3⟩ := st_bk (w := w) (s := s1) (r := itms ch false t.1 r) (n := 1) (off := 0) (d := 2 * s.gs.length) (by rw [a2]; exact hk'.1) (by decide) (by decide)
          have hmin : 2 * s.gs.length ≤ 2 * min r.length (300 - r.length) := by omega
          rw [lay_step (by omega)]
          refine go _ (by omega) ?_ (by rw [c2, c3, a2, a3]; exact hk') (by omega)
          rw [if_neg (by omega), c3, a3]; omega
        · have e2 : post false pk t (hk r) = [] := by unfold post; rw [if_neg (by omega), if_neg (by omega), if_neg (by omega)]
          rw [e2, List.nil_append]
          refine go _ (by omega) ?_ (by rw [a2, a3]; exact hk') (by omega)
          rw [if_neg (by omega), a3]; omega
end Go.Proofs.PlatenTree

/- A text of 300 bytes is never too much: S-expressions; both. -/
namespace Go.Proofs.PlatenTree
set_option linter.unusedVariables false
open Go.Proofs.PlatenLayout (It Ly Gr lay stepL s0 sp most)

theorem read_wn0 {p : List Nat} {P : List Pc} (h : read JM j0 p = some P) : wnF 0 P = some 0 := by
  unfold read at h
  cases hr : run JM p (j0, [], []) with
  | none => rw [hr] at h; cases h
  | some sf =>
    rw [hr] at h
    have hw := run_wn p _ sf (rfl : Wn (j0, [], [])) hr
    have h : fin JM sf = some P := h
    cases hm : JM.mid sf.1 with
    | false =>
      rw [fin_out hm] at h
      split at h
      · rename_i hg
        injection h with h
        rw [← h]
        have hs := ((jgood_iff sf.1).1 hg).2
        unfold Wn at hw
        rw [hs] at hw
        exact hw
      · cases h
    | true =>
      cases hz : JM.lz sf.1 with
      | none => rw [fin_mid hm hz] at h; cases h
      | some kc =>
        obtain ⟨k, c⟩ := kc
        rw [fin_lazy hm hz] at h
        split at h
        · rename_i hg
          injection h with h
          have hs := ((jgood_iff c).1 hg).2
          have hz2 : (if jends (Jc.st sf.1) = true then some (5, jatom sf.1) else none) = some (k, c) := hz
          split at hz2
          · injection hz2 with hz2
            injection hz2 with e1 e2
            subst e1
            rw [← h, wnF_snoc _ _ _ _ hw]
            have e3 : (Jc.stack sf.1) = c.stack := by rw [← e2]; rfl
            rw [e3, hs]
            rfl
          · cases hz2
        · cases h
theorem short_j (w : Int) (ch : List Nat → Nat) {p : List Nat} {P : List Pc} (h : read JM j0 p = some P) (hp : p.length ≤ 300) : ∃ q, lay w (itms ch false 0 P) s0 = some q := by
  have h1 := read_cn jm_ok (c := j0) rfl h
  have h2 := read_tot h
  have h3 := totb_le P
  have mono : ∀ m k, most2 m ≤ most2 (m + k) := fun m k => by
    induction k with
    | zero => exact Nat.le_refl _
    | succ k ih => exact Nat.le_trans ih (by show most2 (m + k) ≤ 2 * min (m + k) (300 - (m + k)) + most2 (m + k); omega)
  have h4 : most2 P.length ≤ 45000 := by
    have := mono P.length (300 - P.length)
    rw [show P.length + (300 - P.length) = 300 by omega, most2_300] at this
    exact this
  refine lay_j w ch P 0 0 s0 (read_wn0 h) (by rw [if_neg (by omega)]; exact Nat.le_refl _) ⟨by decide, trivial⟩ (by omega) ?_
  show 0 + totb P + 2 * P.length + most2 P.length ≤ 65536
  omega

/-- What items are at most, where columns grow. -/
def cost : Nat → List It → Nat
  | _, [] => 0
  | A, x :: l => most1 A x + cost (A + wt x) l
theorem cost_app (a b : List It) : ∀ A, cost A (a ++ b) = cost A a + cost (A + tsum wt a) b := by
  induction a with
  | nil => intro A; show cost A b = 0 + cost (A + 0) b; rw [Nat.zero_add, Nat.add_zero]
  | cons x r ih =>
    intro A
    show most1 A x + cost (A + wt x) (r ++ b) = (most1 A x + cost (A + wt x) r) + cost (A + tsum wt (x :: r)) b
    rw [ih, tsum_cons, Nat.add_assoc, Nat.add_assoc]
theorem cost_mono (l : List It) : ∀ {A B : Nat}, A ≤ B → cost A l ≤ cost B l := by
  induction l with
  | nil => exact fun _ => Nat.le_refl _
  | cons x r ih =>
    intro A B h
    have h1 := most1_mono h [x]
    simp only [tsum, List.map_cons, List.map_nil, List.sum_cons, List.sum_nil, Nat.add_zero] at h1
    exact Nat.add_le_add h1 (ih (by omega))
theorem lay_cost (w : Int) : ∀ (l : List It) (s : Ly) (A : Nat), In A s → s.p.length + cost A l ≤ most → ∃ q, lay w l s = some q
  | [], s, A, h, hm => ⟨s.p, rfl⟩
  | x :: r, s, A, h, hm => by
    have hm : s.p.length + (most1 A x + cost (A + wt x) r) ≤ most := hm
    obtain ⟨h1, h2⟩ := step_in (w := w) (x := x) (r := r) h
    rw [lay_step (by omega)]
    exact lay_cost w r _ _ h1 (by omega)
theorem cost_one (A : Nat) (x : It) : cost A [x] = most1 A x := rfl
/-- One token of an S-expression. -/
theorem cost_s1 (ch : List Nat → Nat) (hch : ∀ x, ch x ≤ x.length) (A pk nk : Nat) (t : Pc) (h3 : t.1 ≠ 3) :
    cost A (pre true pk t ++ (itx ch t :: post true pk t nk)) ≤ b0 true pk t nk * (A + 2) + (t.2.length + (tb t).length) ∧
    tsum wt (pre true pk t ++ (itx ch t :: post true pk t nk)) ≤ b0 true pk t nk + (t.2.length + (tb t).length) := by
  have hx : wt (itx ch t) ≤ t.2.length + (tb t).length := by
    have := hch (t.2 ++ tb t)
    rw [List.length_append] at this
    exact this
  have hm : ∀ B, most1 B (itx ch t) = t.2.length + (tb t).length := by
    intro B
    show (t.2 ++ tb t).length = _
    rw [List.length_append]
  have hpost : ∀ B, cost B (post true pk t nk) = 0 ∧ tsum wt (post true pk t nk) = 0 := by
    intro B
    unfold post
    by_cases k1 : t.1 = 1 ∧ nk ≠ 2
    · rw [if_pos k1, if_pos rfl]; exact ⟨rfl, rfl⟩
    rw [if_neg k1]
    by_cases k2 : t.1 = 2 ∧ pk ≠ 1
    · rw [if_pos k2]; exact ⟨rfl, rfl⟩
    rw [if_neg k2, if_neg h3]; exact ⟨rfl, rfl⟩
  have e : ∀ B, cost B (itx ch t :: post true pk t nk) = t.2.length + (tb t).length := by
    intro B
    show most1 B (itx ch t) + cost (B + wt (itx ch t)) (post true pk t nk) = _
    rw [hm, (hpost _).1]; rfl
  rw [cost_app, e, tsum_app, tsum_cons, (hpost 0).2]
  unfold pre b0
  by_cases q : t.1 ≠ 2 ∧ (pk = 5 ∨ pk = 2)
  · rw [if_pos ⟨rfl, q⟩, if_pos rfl, if_pos q, ts_one, cost_one, Nat.one_mul]
    refine ⟨?_, ?_⟩
    · show (1 + 1 + A + 0) + _ ≤ _; omega
    · show 1 + 0 + _ ≤ _; omega
  · rw [if_neg (fun z => q z.2), if_neg (fun z => by cases z.1), if_pos rfl, if_neg q, ts_nil, Nat.zero_mul]
    refine ⟨?_, ?_⟩
    · show 0 + _ ≤ _; omega
    · omega
theorem b0_one (pk : Nat) (t : Pc) (nk : Nat) : b0 true pk t nk = 0 ∨ b0 true pk t nk = 1 := by
  have := b0_le true pk t nk; omega
theorem cost_s (ch : List Nat → Nat) (hch : ∀ x, ch x ≤ x.length) : ∀ (P : List Pc) (pk A : Nat), NoC P → (∀ t ∈ P, t.2 ≠ []) → cost A (itms ch true pk P) ≤ totb P + brs true pk P + brs true pk P * (A + totb P)
  | [], pk, A, _, _ => Nat.zero_le _
  | t :: r, pk, A, hc, hne => by
    obtain ⟨o1, o2⟩ := cost_s1 ch hch A pk (hk r) t (hc t (by simp))
    have ih := cost_s ch hch r t.1 (A + (b0 true pk t (hk r) + (t.2.length + (tb t).length))) (fun x hx => hc x (by simp [hx])) (fun x hx => hne x (by simp [hx]))
    have hb : brs true t.1 r ≤ totb r := Nat.le_trans (brs_le true r t.1) (len_totb r (fun x hx => hne x (by simp [hx])))
    have hl : 1 ≤ t.2.length + (tb t).length := Nat.le_trans (List.length_pos_iff.2 (hne t (by simp))) (Nat.le_add_right _ _)
    have e : itms ch true pk (t :: r) = (pre true pk t ++ (itx ch t :: post true pk t (hk r))) ++ itms ch true t.1 r := by rw [itms_cons]; simp
    rw [e, cost_app, totb_cons, brs_cons]
    have ih2 : cost (A + tsum wt (pre true pk t ++ (itx ch t :: post true pk t (hk r)))) (itms ch true t.1 r) ≤ _ := Nat.le_trans (cost_mono _ (by omega)) ih
    generalize cost (A + tsum wt (pre true pk t ++ (itx ch t :: post true pk t (hk r)))) (itms ch true t.1 r) = X at *
    generalize cost A (pre true pk t ++ (itx ch t :: post true pk t (hk r))) = Y at *
    generalize t.2.length + (tb t).length = L at *
    generalize brs true t.1 r = b at *
    generalize totb r = T at *
    rcases b0_one pk t (hk r) with q | q
    · rw [q] at o1 ih2 ⊢
      rw [Nat.zero_mul] at o1
      rw [Nat.zero_add] at ih2 ⊢
      have e2 : A + L + T = A + (L + T) := by omega
      rw [e2] at ih2
      omega
    · rw [q] at o1 ih2 ⊢
      rw [Nat.one_mul] at o1
      have e2 : b * (A + (1 + L) + T) = b * (A + (L + T)) + b := by rw [show A + (1 + L) + T = A + (L + T) + 1 by omega, Nat.mul_add, Nat.mul_one]
      have e3 : (1 + b) * (A + (L + T)) = (A + (L + T)) + b * (A + (L + T)) := by rw [Nat.add_mul, Nat.one_mul]
      rw [e3]
      rw [e2] at ih2
      generalize b * (A + (L + T)) = Z at *
      omega
end Go.Proofs.PlatenTree

/- Of 300 bytes of an S-expression there are 200 breaks at most. -/
namespace Go.Proofs.PlatenTree
set_option linter.unusedVariables false
open Go.Proofs.PlatenLayout (It Ly Gr lay stepL s0 sp most)
open Go.Proofs.PlatenSexp (aft isP)

/-- No colon is a token of an S-expression. -/
def NoC4 (P : List Pc) : Prop := ∀ t ∈ P, t.1 ≠ 4
theorem totb_tot : ∀ (P : List Pc), NoC4 P → totb P = tot P
  | [], _ => rfl
  | t :: r, h => by
    have e : tot (t :: r) = t.2.length + tot r := by simp [tot]
    have e2 : (tb t).length = 0 := by unfold tb; rw [if_neg (h t (by simp))]; rfl
    rw [totb_cons, e, totb_tot r (fun x hx => h x (by simp [hx])), e2]
    omega
/-- What a kind is worth between tokens, and a state within one. -/
def uB (k : Nat) : Nat := if k = 5 ∨ k = 2 then 2 else 0
def uM (st : Nat) : Nat := if st = 3 then 1 else 0
theorem brs_snoc (P : List Pc) (t : Pc) : brs true 0 (P ++ [t]) = brs true 0 P + (if t.1 ≠ 2 ∧ (lastD 0 P = 5 ∨ lastD 0 P = 2) then 1 else 0) := by
  rw [brs_app, brs_one]
theorem lastD_snoc (P : List Pc) (t : Pc) : lastD 0 (P ++ [t]) = t.1 := by rw [lastD_app]; rfl
theorem noc4_snoc {P : List Pc} {x : Pc} (h : NoC4 P) (hx : x.1 ≠ 4) : NoC4 (P ++ [x]) := fun t ht => by
  rcases List.mem_append.1 ht with ht | ht
  · exact h t ht
  · simp at ht; rw [ht]; exact hx
/-- Behind m bytes: three times the breaks are no more than twice the bytes, and what is left of it. -/
structure Bal (s : St SM) (m : Nat) : Prop where
  noc : NoC4 s.2.2
  out : SM.mid s.1 = false → 3 * brs true 0 s.2.2 + uB (lastD 0 s.2.2) ≤ 2 * m + 1
  mid : SM.mid s.1 = true → 3 * brs true 0 (s.2.2 ++ [(SM.kd s.1, s.2.1)]) + uM (Prod.fst s.1) ≤ 2 * m + 1
theorem uB_le (k : Nat) : uB k ≤ 2 := by unfold uB; split <;> omega
theorem snoc_le (P : List Pc) (t : Pc) {m : Nat} (h0 : 3 * brs true 0 P ≤ 2 * m + 1) (hE : (lastD 0 P = 5 ∨ lastD 0 P = 2) → 3 * brs true 0 P + 1 ≤ 2 * m + 1) : 3 * brs true 0 (P ++ [t]) ≤ 2 * (m + 1) + 1 := by
  rw [brs_snoc]
  split
  · rename_i q; have := hE q.2; omega
  · omega
theorem app_bal {st dep b m : Nat} {buf : List Nat} {P : List Pc} {s' : St SM} (hn : NoC4 P) (h0 : 3 * brs true 0 P ≤ 2 * m + 1) (hE : (lastD 0 P = 5 ∨ lastD 0 P = 2) → 3 * brs true 0 P + 1 ≤ 2 * m + 1)
    (hP : (lastD 0 P = 5 ∨ lastD 0 P = 2) → isP b = true → 3 * brs true 0 P + 2 ≤ 2 * m + 1) (hm : smid st = false) (h : app SM (sf0 st dep b) ((st, dep), buf, P) b = some s') : Bal s' (m + 1) := by
  unfold sf0 at h
  by_cases h1 : isB b = true
  · rw [if_pos h1] at h
    simp [app] at h
    rw [← h]
    refine ⟨hn, fun _ => ?_, fun q => ?_⟩
    · have := uB_le (lastD 0 P)
      show 3 * brs true 0 P + uB (lastD 0 P) ≤ _
      omega
    · have q : smid st = true := q
      rw [hm] at q; cases q
  rw [if_neg h1] at h
  by_cases h2 : st = 6
  · rw [if_pos h2] at h; simp [app] at h
  rw [if_neg h2] at h
  by_cases h3 : b = 41 ∧ st = 1
  · rw [if_pos h3] at h
    simp [app] at h
    rw [← h]
    refine ⟨noc4_snoc hn (show (2 : Nat) ≠ 4 by decide), fun _ => ?_, fun q => ?_⟩
    · show 3 * brs true 0 (P ++ [(2, [b])]) + uB (lastD 0 (P ++ [(2, [b])])) ≤ _
      rw [lastD_snoc, brs_snoc, if_neg (by simp)]
      have := uB_le 2
      show 3 * (brs true 0 P + 0) + uB 2 ≤ _
      omega
    · have q : smid (aft (dep - 1)) = true := q
      rw [aft_mid] at q; cases q
  rw [if_neg h3] at h
  have whole : ∀ k st' dep', (k = 6 ∨ k = 1) → smid st' = false → s' = ((st', dep'), [], P ++ [(k, [b])]) → Bal s' (m + 1) := by
    intro k st' dep' hk hst e
    rw [e]
    refine ⟨noc4_snoc hn (by show k ≠ 4; omega), fun _ => ?_, fun q => ?_⟩
    · show 3 * brs true 0 (P ++ [(k, [b])]) + uB (lastD 0 (P ++ [(k, [b])])) ≤ _
      have := snoc_le P (k, [b]) h0 hE
      have hu : uB k = 0 := by unfold uB; rw [if_neg (by omega)]
      rw [lastD_snoc]
      show _ + uB k ≤ _
      omega
    · have q : smid st' = true := q
      rw [hst] at q; cases q
  have start : ∀ st' dep', smid st' = true → (st' = 3 → isP b = true) → s' = ((st', dep'), [b], P) → Bal s' (m + 1) := by
    intro st' dep' hst h3' e
    rw [e]
    refine ⟨hn, fun q => ?_, fun _ => ?_⟩
    · have q : smid st' = false := q
      rw [hst] at q; cases q
    · show 3 * brs true 0 (P ++ [(SM.kd (st', dep'), [b])]) + uM st' ≤ _
      by_cases e3 : st' = 3
      · have hu : uM st' = 1 := by unfold uM; rw [if_pos e3]
        rw [hu, brs_snoc]
        split
        · rename_i q; have := hP q.2 (h3' e3); omega
        · omega
      · have hu : uM st' = 0 := by unfold uM; rw [if_neg e3]
        have := snoc_le P (SM.kd (st', dep'), [b]) h0 hE
        omega
  by_cases h4 : b = 39 ∨ b = 96
  · rw [if_pos h4] at h
    simp [app] at h
    exact whole 6 0 dep (Or.inl rfl) rfl h.symm
  rw [if_neg h4] at h
  by_cases h5 : b = 44
  · rw [if_pos h5] at h
    simp [app] at h
    exact start 2 dep rfl (fun q => by cases q) h.symm
  rw [if_neg h5] at h
  by_cases h6 : b = 40
  · rw [if_pos h6] at h
    by_cases h7 : dep = 512
    · rw [if_pos h7] at h; simp [app] at h
    · rw [if_neg h7] at h
      simp [app] at h
      exact whole 1 1 (dep + 1) (Or.inr rfl) rfl h.symm
  rw [if_neg h6] at h
  by_cases h8 : b = 34
  · rw [if_pos h8] at h
    simp [app] at h
    exact start 4 dep rfl (fun q => by cases q) h.symm
  rw [if_neg h8] at h
  by_cases h9 : isP b = true ∧ b ≠ 64
  · rw [if_pos h9] at h
    simp [app] at h
    exact start 3 dep rfl (fun _ => h9.1) h.symm
  · rw [if_neg h9] at h; simp [app] at h
theorem fd_bal {s s' : St SM} {b m : Nat} (hb : Bal s m) (h : fd SM s b = some s') : Bal s' (m + 1) := by
  obtain ⟨⟨st, dep⟩, buf, P⟩ := s
  cases hm : SM.mid ((st, dep) : Nat × Nat) with
  | false =>
    rw [fd_out hm] at h
    have ho : 3 * brs true 0 P + uB (lastD 0 P) ≤ 2 * m + 1 := hb.out hm
    have hu : (lastD 0 P = 5 ∨ lastD 0 P = 2) → uB (lastD 0 P) = 2 := fun q => by unfold uB; rw [if_pos q]
    exact app_bal (P := P) (m := m) hb.noc (by omega) (fun q => by have := hu q; omega) (fun q _ => by have := hu q; omega) hm h
  | true =>
    have hi : 3 * brs true 0 (P ++ [(SM.kd (st, dep), buf)]) + uM st ≤ 2 * m + 1 := hb.mid hm
    have hk4 : SM.kd (st, dep) ≠ 4 := by show (if st = 2 then 6 else 5) ≠ 4; split <;> decide
    have hn2 : NoC4 (P ++ [(SM.kd (st, dep), buf)]) := noc4_snoc hb.noc hk4
    cases h1 : sf1 st dep b with
    | some r =>
      rw [fd_some (M := SM) (r := r) hm (show SM.f1 ((st, dep) : Nat × Nat) b = some r from h1)] at h
      unfold sf1 at h1
      have more : ∀ st' dep', smid st' = true → SM.kd (st', dep') = SM.kd (st, dep) → uM st' ≤ uM st + 2 → s' = ((st', dep'), buf ++ [b], P) → Bal s' (m + 1) := by
        intro st' dep' hst hk hu e
        rw [e]
        refine ⟨hb.noc, fun q => ?_, fun _ => ?_⟩
        · have q : smid st' = false := q
          rw [hst] at q; cases q
        · show 3 * brs true 0 (P ++ [(SM.kd (st', dep'), buf ++ [b])]) + uM st' ≤ _
          rw [hk]
          rw [brs_snoc] at hi ⊢
          have hi : 3 * (brs true 0 P + (if SM.kd (st, dep) ≠ 2 ∧ (lastD 0 P = 5 ∨ lastD 0 P = 2) then 1 else 0)) + uM st ≤ 2 * m + 1 := hi
          show 3 * (brs true 0 P + (if SM.kd (st, dep) ≠ 2 ∧ (lastD 0 P = 5 ∨ lastD 0 P = 2) then 1 else 0)) + uM st' ≤ _
          omega
      have last : ∀ k st' dep', k = SM.kd (st, dep) → smid st' = false → s' = ((st', dep'), [], P ++ [(k, buf ++ [b])]) → Bal s' (m + 1) := by
        intro k st' dep' hk hst e
        rw [e]
        refine ⟨noc4_snoc hb.noc (by show k ≠ 4; rw [hk]; exact hk4), fun _ => ?_, fun q => ?_⟩
        · show 3 * brs true 0 (P ++ [(k, buf ++ [b])]) + uB (lastD 0 (P ++ [(k, buf ++ [b])])) ≤ _
          rw [lastD_snoc]
          show 3 * brs true 0 (P ++ [(k, buf ++ [b])]) + uB k ≤ _
          rw [hk]
          rw [brs_snoc] at hi ⊢
          have hi : 3 * (brs true 0 P + (if SM.kd (st, dep) ≠ 2 ∧ (lastD 0 P = 5 ∨ lastD 0 P = 2) then 1 else 0)) + uM st ≤ 2 * m + 1 := hi
          show 3 * (brs true 0 P + (if SM.kd (st, dep) ≠ 2 ∧ (lastD 0 P = 5 ∨ lastD 0 P = 2) then 1 else 0)) + uB (SM.kd (st, dep)) ≤ _
          have := uB_le (SM.kd (st, dep))
          omega
        · have q : smid st' = true := q
          rw [hst] at q; cases q
      by_cases s4 : st = 4
      · rw [if_pos s4] at h1
        injection h1 with h1
        have hk5 : (5 : Nat) = SM.kd (st, dep) := by rw [s4]; rfl
        have hu4 : uM st = 0 := by rw [s4]; rfl
        by_cases b1 : b = 34
        · rw [if_pos b1] at h1; rw [← h1] at h; simp [app] at h
          exact last 5 (aft dep) dep hk5 (aft_mid _) h.symm
        rw [if_neg b1] at h1
        by_cases b2 : b = 92
        · rw [if_pos b2] at h1; rw [← h1] at h; simp [app] at h
          exact more 5 dep rfl (by rw [← hk5]; rfl) (by show 0 ≤ _; omega) h.symm
        · rw [if_neg b2] at h1; rw [← h1] at h; simp [app] at h
          exact more 4 dep rfl (by rw [← hk5]; rfl) (by show 0 ≤ _; omega) h.symm
      rw [if_neg s4] at h1
      by_cases s5 : st = 5
      · rw [if_pos s5] at h1
        injection h1 with h1
        rw [← h1] at h; simp [app] at h
        exact more 4 dep rfl (by rw [s5]; rfl) (by show 0 ≤ _; omega) h.symm
      rw [if_neg s5] at h1
      by_cases s3 : st = 3
      · rw [if_pos s3] at h1
        split at h1
        · injection h1 with h1
          rw [← h1] at h; simp [app] at h
          exact more 3 dep rfl (by rw [s3]) (by show 1 ≤ _; omega) h.symm
        · cases h1
      rw [if_neg s3] at h1
      by_cases s2 : st = 2
      · rw [if_pos s2] at h1
        split at h1
        · injection h1 with h1
          rw [← h1] at h; simp [app] at h
          exact last 6 0 dep (by rw [s2]; rfl) rfl h.symm
        · cases h1
      · rw [if_neg s2] at h1; cases h1
    | none =>
      cases hz : slz st dep with
      | none =>
        have hz' : SM.lz ((st, dep) : Nat × Nat) = none := hz
        have h1' : SM.f1 ((st, dep) : Nat × Nat) b = none := h1
        simp [fd, hm, h1', hz'] at h
      | some kc =>
        obtain ⟨k, st', dep'⟩ := kc
        rw [fd_lazy (M := SM) (c := (st', dep')) hm (show SM.f1 ((st, dep) : Nat × Nat) b = none from h1) (show SM.lz ((st, dep) : Nat × Nat) = some (k, st', dep') from hz)] at h
        have hzl := sm_ok.lzm (st, dep) k (st', dep') hz
        have hk : k = SM.kd (st, dep) := hzl.2.2
        have hi2 : 3 * brs true 0 (P ++ [(k, buf)]) + uM st ≤ 2 * m + 1 := by rw [hk]; exact hi
        have hl : lastD 0 (P ++ [(k, buf)]) = k := lastD_snoc _ _
        refine app_bal (P := P ++ [(k, buf)]) (m := m) (by rw [hk]; exact hn2) (by omega) (fun q => ?_) (fun q hp => ?_) hzl.2.1 h
        · rw [hl, hk] at q
          have s3 : st = 3 := by
            unfold slz at hz
            split at hz
            · assumption
            · split at hz
              · rename_i s2; rw [s2] at q; rcases q with q | q <;> cases q
              · cases hz
          have hu : uM st = 1 := by rw [s3]; rfl
          omega
        · rw [hl, hk] at q
          exfalso
          unfold slz at hz
          split at hz
          · rename_i s3
            rw [s3] at h1
            have : sf1 3 dep b = some (.more (3, dep)) := by unfold sf1; rw [if_neg (by decide), if_neg (by decide), if_pos rfl, if_pos hp]
            rw [this] at h1; cases h1
          · split at hz
            · rename_i s2; rw [s2] at q; rcases q with q | q <;> cases q
            · cases hz
theorem run_bal : ∀ (p : List Nat) (s s' : St SM) (m : Nat), Bal s m → run SM p s = some s' → Bal s' (m + p.length)
  | [], s, s', m, hs, h => by injection h with h; rw [← h]; exact hs
  | b :: r, s, s', m, hs, h => by
    rw [run_cons] at h
    cases hf : fd SM s b with
    | none => rw [hf] at h; cases h
    | some s2 =>
      rw [hf] at h
      have := run_bal r s2 s' (m + 1) (fd_bal hs hf) h
      rw [show m + 1 + r.length = m + (b :: r).length by rw [List.length_cons]; omega] at this
      exact this
theorem read_bal {p : List Nat} {P : List Pc} (h : read SM (0, 0) p = some P) : NoC4 P ∧ 3 * brs true 0 P ≤ 2 * p.length + 1 := by
  unfold read at h
  cases hr : run SM p ((0, 0), [], []) with
  | none => rw [hr] at h; cases h
  | some sf =>
    rw [hr] at h
    have hw := run_bal p ((0, 0), [], []) sf 0 ⟨fun t ht => (by cases ht), fun _ => by decide, fun q => by cases q⟩ hr
    rw [Nat.zero_add] at hw
    have h : fin SM sf = some P := h
    cases hm : SM.mid sf.1 with
    | false =>
      rw [fin_out hm] at h
      split at h
      · injection h with h; rw [← h]; have := hw.out hm; exact ⟨hw.noc, by omega⟩
      · cases h
    | true =>
      cases hz : SM.lz sf.1 with
      | none => rw [fin_mid hm hz] at h; cases h
      | some kc =>
        obtain ⟨k, c⟩ := kc
        rw [fin_lazy hm hz] at h
        split at h
        · injection h with h
          rw [← h]
          have hk := (sm_ok.lzm _ _ _ hz).2.2
          have := hw.mid hm
          rw [hk]
          exact ⟨noc4_snoc hw.noc (by show (if Prod.fst sf.1 = 2 then 6 else 5) ≠ 4; split <;> decide), by omega⟩
        · cases h
/-- A text of 300 bytes is never too much. -/
theorem short_room300 {s : Bool} (w : Int) (ch : List Nat → Nat) (hch : ∀ x, ch x ≤ x.length) {p : List Nat} {P : List Pc} (h : rd s p = some P) (hp : p.length ≤ 300) : ∃ q, lay w (itms ch s 0 P) s0 = some q := by
  cases s with
  | false => exact short_j w ch (p := p) h hp
  | true =>
    have h : read SM (0, 0) p = some P := h
    obtain ⟨h4, hb⟩ := read_bal h
    have h2 := read_tot h
    have hT : totb P ≤ 300 := by rw [totb_tot P h4]; omega
    have hB : brs true 0 P ≤ 200 := by omega
    have hc := cost_s ch hch P 0 0 (sread_noc h) (rd_ne (s := true) h)
    have hmul : brs true 0 P * (0 + totb P) ≤ 200 * 300 := Nat.mul_le_mul hB (by omega)
    refine lay_cost w _ s0 0 in_s0 ?_
    show 0 + cost 0 (itms ch true 0 P) ≤ 65536
    omega
end Go.Proofs.PlatenTree

/- The tokens of a text that can be read: where they lie in it, their kinds, and which may follow which; the items as the program lays them. -/
namespace Go.Proofs.PlatenTree
set_option linter.unusedVariables false
open Go.Proofs.PlatenLayout (It)

/-! Kinds, one behind the other. -/
def Ck (ok : Nat → Nat → Prop) : Nat → List Pc → Prop
  | _, [] => True
  | pk, t :: r => ok pk t.1 ∧ Ck ok t.1 r
theorem ck_snoc {ok : Nat → Nat → Prop} : ∀ (P : List Pc) (pk : Nat) (t : Pc), Ck ok pk P → ok (lastD pk P) t.1 → Ck ok pk (P ++ [t])
  | [], pk, t, _, h => ⟨h, trivial⟩
  | x :: r, pk, t, h, h2 => ⟨h.1, ck_snoc r x.1 t h.2 h2⟩
/-- What a reader says of the kind that may come: A of a state between tokens and the last kind. -/
structure Kd (M : Mach) (A : M.C → Nat → Prop) (ok : Nat → Nat → Prop) (fine : Nat → Prop) : Prop where
  w : ∀ c k b k' c', A c k → M.f0 c b = .whole k' c' → ok k k' ∧ A c' k'
  s : ∀ c k b c', A c k → M.f0 c b = .start c' → ok k (M.kd c')
  l : ∀ c b k' c', M.f1 c b = some (.last k' c') → A c' k'
  z : ∀ c k' c', M.lz c = some (k', c') → A c' k'
  g : ∀ c k, A c k → M.good c = true → fine k
def KI (M : Mach) (A : M.C → Nat → Prop) (ok : Nat → Nat → Prop) (s : St M) : Prop :=
  Ck ok 0 s.2.2 ∧ (M.mid s.1 = false → A s.1 (lastD 0 s.2.2)) ∧ (M.mid s.1 = true → ok (lastD 0 s.2.2) (M.kd s.1))
section
variable {M : Mach} {A : M.C → Nat → Prop} {ok : Nat → Nat → Prop} {fine : Nat → Prop} (hM : Ok M) (hK : Kd M A ok fine)
include hM hK
theorem app_ki {c : M.C} {buf : List Nat} {P : List Pc} {s' : St M} {b : Nat} (hm : M.mid c = false) (hc : Ck ok 0 P) (ha : A c (lastD 0 P)) (h : app M (M.f0 c b) (c, buf, P) b = some s') : KI M A ok s' := by
  cases hf : M.f0 c b with
  | bad => rw [hf] at h; simp [app] at h
  | blank => rw [hf] at h; simp [app] at h; rw [← h]; exact ⟨hc, fun _ => ha, fun q => (by have q : M.mid c = true := q; rw [hm] at q; cases q)⟩
  | more c' => exact absurd hf (hM.m0 _ _ _)
  | last k c' => exact absurd hf (hM.l0 _ _ _ _)
  | start c' =>
    rw [hf] at h; simp [app] at h; rw [← h]
    have hs := hM.s0 _ _ _ hf
    exact ⟨hc, fun q => (by have q : M.mid c' = false := q; rw [hs] at q; cases q), fun _ => hK.s _ _ _ _ ha hf⟩
  | whole k c' =>
    rw [hf] at h; simp [app] at h; rw [← h]
    obtain ⟨o1, o2⟩ := hK.w _ _ _ _ _ ha hf
    have hw := hM.w0 _ _ _ _ hf
    refine ⟨ck_snoc P 0 _ hc o1, fun _ => ?_, fun q => (by have q : M.mid c' = true := q; rw [hw] at q; cases q)⟩
    show A c' (lastD 0 (P ++ [(k, [b])]))
    rw [lastD_snoc]
    exact o2
theorem fd_ki {s s' : St M} {b : Nat} (hs : KI M A ok s) (h : fd M s b = some s') : KI M A ok s' := by
  obtain ⟨c, buf, P⟩ := s
  cases hm : M.mid c with
  | false =>
    rw [fd_out (s := ((c, buf, P) : St M)) hm] at h
    exact app_ki hM hK hm hs.1 (hs.2.1 hm) h
  | true =>
    have ho : ok (lastD 0 P) (M.kd c) := hs.2.2 hm
    cases h1 : M.f1 c b with
    | some r =>
      rw [fd_some (s := ((c, buf, P) : St M)) hm h1] at h
      cases r with
      | bad => simp [app] at h
      | blank => exact absurd h1 (hM.b1 _ _)
      | start c => exact absurd h1 (hM.s1 _ _ _)
      | whole k c => exact absurd h1 (hM.w1 _ _ _ _)
      | more c' =>
        simp [app] at h
        rw [← h]
        obtain ⟨m1, m2⟩ := hM.m1 _ _ _ h1
        refine ⟨hs.1, fun q => (by have q : M.mid c' = false := q; rw [m1] at q; cases q), fun _ => ?_⟩
        show ok (lastD 0 P) (M.kd c')
        rw [m2]; exact ho
      | last k c' =>
        simp [app] at h
        rw [← h]
        obtain ⟨m1, m2⟩ := hM.l1 _ _ _ _ h1
        refine ⟨ck_snoc P 0 _ hs.1 (by show ok _ k; rw [m2]; exact ho), fun _ => ?_, fun q => (by have q : M.mid c' = true := q; rw [m1] at q; cases q)⟩
        show A c' (lastD 0 (P ++ [(k, buf ++ [b])]))
        rw [lastD_snoc]
        exact hK.l _ _ _ _ h1
    | none =>
      cases hz : M.lz c with
      | none => simp [fd, hm, h1, hz] at h
      | some kc =>
        obtain ⟨k, c'⟩ := kc
        rw [fd_lazy (s := ((c, buf, P) : St M)) hm h1 hz] at h
        obtain ⟨_, z2, z3⟩ := hM.lzm _ _ _ hz
        refine app_ki hM hK z2 (ck_snoc P 0 _ hs.1 (by show ok _ k; rw [z3]; exact ho)) ?_ h
        rw [lastD_snoc]
        exact hK.z _ _ _ hz
theorem run_ki : ∀ (p : List Nat) (s s' : St M), KI M A ok s → run M p s = some s' → KI M A ok s'
  | [], s, s', hs, h => by injection h with h; rw [← h]; exact hs
  | b :: r, s, s', hs, h => by
    rw [run_cons] at h
    cases hf : fd M s b with
    | none => rw [hf] at h; cases h
    | some s2 => rw [hf] at h; exact run_ki r s2 s' (fd_ki hM hK hs hf) h
theorem read_ki {c : M.C} (hc : M.mid c = false) (ha : A c 0) {p : List Nat} {P : List Pc} (h : read M c p = some P) : Ck ok 0 P ∧ fine (lastD 0 P) := by
  unfold read at h
  cases hr : run M p (c, [], []) with
  | none => rw [hr] at h; cases h
  | some sf =>
    rw [hr] at h
    have hw := run_ki hM hK p (c, [], []) sf ⟨trivial, fun _ => ha, fun q => (by have q : M.mid c = true := q; rw [hc] at q; cases q)⟩ hr
    have h : fin M sf = some P := h
    cases hm : M.mid sf.1 with
    | false =>
      rw [fin_out hm] at h
      split at h
      · rename_i hg
        injection h with h; rw [← h]
        exact ⟨hw.1, hK.g _ _ (hw.2.1 hm) hg⟩
      · cases h
    | true =>
      cases hz : M.lz sf.1 with
      | none => rw [fin_mid hm hz] at h; cases h
      | some kc =>
        obtain ⟨k, c'⟩ := kc
        rw [fin_lazy hm hz] at h
        split at h
        · rename_i hg
          injection h with h
          rw [← h]
          obtain ⟨_, z2, z3⟩ := hM.lzm _ _ _ hz
          refine ⟨ck_snoc _ 0 _ hw.1 (by show ok _ k; rw [z3]; exact hw.2.2 hm), ?_⟩
          rw [lastD_snoc]
          exact hK.g _ _ (hK.z _ _ _ hz) hg
        · cases h
end
def okS (k k' : Nat) : Prop := (k' = 1 ∨ k' = 2 ∨ k' = 5 ∨ k' = 6) ∧ (k = 0 → k' ≠ 2)
def aS (c : Nat × Nat) (k : Nat) : Prop := (k = 1 → c.1 ≠ 6) ∧ (k = 0 → c.1 = 0)
theorem kd_s : Kd SM aS okS (fun k => k ≠ 1) where
  w := by
    intro c k b k' c' ha h
    obtain ⟨st, dep⟩ := c
    have h : sf0 st dep b = .whole k' c' := h
    have ha2 : k = 0 → st = 0 := ha.2
    unfold sf0 at h
    split at h
    · cases h
    split at h
    · cases h
    split at h
    · rename_i h41
      injection h with h1 h2
      subst h1 h2
      exact ⟨⟨by omega, fun q => by have := ha2 q; omega⟩, fun q => by omega, fun q => by omega⟩
    split at h
    · injection h with h1 h2
      subst h1 h2
      exact ⟨⟨by omega, fun _ => by decide⟩, fun q => by omega, fun q => by omega⟩
    split at h
    · cases h
    split at h
    · split at h
      · cases h
      · injection h with h1 h2
        subst h1 h2
        exact ⟨⟨by omega, fun _ => by decide⟩, fun _ => (show (1 : Nat) ≠ 6 by decide), fun q => by omega⟩
    split at h
    · cases h
    split at h <;> cases h
  s := by
    intro c k b c' ha h
    have : SM.kd c' = 6 ∨ SM.kd c' = 5 := by show (if c'.1 = 2 then 6 else 5) = 6 ∨ _ = 5; by_cases q : c'.1 = 2 <;> simp [q, SM]
    exact ⟨by omega, fun _ => by omega⟩
  l := by
    intro c b k' c' h
    have := (sm_ok.l1 _ _ _ _ h).2
    have h2 : SM.kd c = 6 ∨ SM.kd c = 5 := by show (if c.1 = 2 then 6 else 5) = 6 ∨ _ = 5; by_cases q : c.1 = 2 <;> simp [q, SM]
    exact ⟨fun q => by omega, fun q => by omega⟩
  z := by
    intro c k' c' h
    have := (sm_ok.lzm _ _ _ h).2.2
    have h2 : SM.kd c = 6 ∨ SM.kd c = 5 := by show (if c.1 = 2 then 6 else 5) = 6 ∨ _ = 5; by_cases q : c.1 = 2 <;> simp [q, SM]
    exact ⟨fun q => by omega, fun q => by omega⟩
  g := by
    intro c k ha hg q
    have : c.1 = 6 := by simpa [SM] using hg
    exact ha.1 q this
def okJ (k k' : Nat) : Prop := (1 ≤ k' ∧ k' ≤ 5) ∧ (k = 0 → k' ≠ 2) ∧ (k = 3 → k' ≠ 2)
def aJ (c : Jc) (k : Nat) : Prop := (k = 0 → c.st = 0) ∧ (k = 1 → c.st = 1 ∨ c.st = 2) ∧ (k = 3 → c.st = 0 ∨ c.st = 3)
theorem jbegin_kd {c : Jc} {k b k' : Nat} {c' : Jc} (h : jbegin c b = .whole k' c') : okJ k k' ∧ aJ c' k' := by
  unfold jbegin at h
  split at h
  · split at h
    · cases h
    · injection h with h1 h2
      subst h1 h2
      refine ⟨⟨by omega, fun _ => by decide, fun _ => by decide⟩, fun q => by omega, fun _ => ?_, fun q => by omega⟩
      show (if b = 123 then 2 else 1) = 1 ∨ (if b = 123 then 2 else 1) = 2
      split <;> simp
  · repeat' (split at h)
    all_goals cases h
theorem jnext_kd {c : Jc} {k b k' : Nat} {c' : Jc} (h : jnext c b = .whole k' c') (hk : k ≠ 0) (hk3 : k ≠ 3) : okJ k k' ∧ aJ c' k' := by
  unfold jnext at h
  cases hs : c.stack with
  | nil => rw [hs] at h; cases h
  | cons x S =>
    rw [hs] at h
    simp only at h
    split at h
    · injection h with h1 h2
      subst h1 h2
      exact ⟨⟨by omega, fun q => absurd q hk, fun q => absurd q hk3⟩, fun q => by omega, fun q => by omega, fun _ => Or.inl rfl⟩
    split at h
    · injection h with h1 h2
      subst h1 h2
      exact ⟨⟨by omega, fun q => absurd q hk, fun q => absurd q hk3⟩, fun q => by omega, fun q => by omega, fun _ => Or.inr rfl⟩
    split at h
    · injection h with h1 h2
      subst h1 h2
      exact ⟨⟨by omega, fun q => absurd q hk, fun q => absurd q hk3⟩, fun q => by omega, fun q => by omega, fun q => by omega⟩
    · cases h
theorem kd_j : Kd JM aJ okJ (fun k => k ≠ 1 ∧ k ≠ 3) where
  w := by
    intro c k b k' c' ha h
    have h : jf0 c b = .whole k' c' := h
    obtain ⟨a0, a1, a3⟩ := ha
    unfold jf0 at h
    split at h
    · cases h
    split at h
    · exact jbegin_kd h
    rename_i st0
    have hk : k ≠ 0 := fun q => st0 (a0 q)
    split at h
    · rename_i st1
      split at h
      · exact jnext_kd h hk (fun q => by have := a3 q; omega)
      · exact jbegin_kd h
    split at h
    · split at h
      · rename_i q2
        exact jnext_kd h hk (fun q => by have := a3 q; omega)
      · split at h <;> cases h
    rename_i st23
    have hk3 : k ≠ 3 := fun q => by have := a3 q; omega
    split at h
    · split at h
      · cases h
      · injection h with h1 h2
        subst h1 h2
        exact ⟨⟨by omega, fun q => absurd q hk, fun q => absurd q hk3⟩, fun q => by omega, fun q => by omega, fun q => by omega⟩
    · exact jnext_kd h hk hk3
  s := fun c k b c' ha h => ⟨⟨by show 1 ≤ 5; omega, by show 5 ≤ 5; omega⟩, fun _ => (by show 5 ≠ 2; decide), fun _ => (by show 5 ≠ 2; decide)⟩
  l := by
    intro c b k' c' h
    have : k' = 5 := (jm_ok.l1 _ _ _ _ h).2
    exact ⟨fun q => by omega, fun q => by omega, fun q => by omega⟩
  z := by
    intro c k' c' h
    have : k' = 5 := (jm_ok.lzm _ _ _ h).2.2
    exact ⟨fun q => by omega, fun q => by omega, fun q => by omega⟩
  g := by
    intro c k ha hg
    have h5 := ((jgood_iff c).1 hg).1
    exact ⟨fun q => by have := ha.2.1 q; omega, fun q => by have := ha.2.2 q; omega⟩

/-- What may follow what, of a text that can be read. -/
def okB (s : Bool) (k k' : Nat) : Prop := (1 ≤ k' ∧ k' ≤ 6) ∧ (k = 0 → k' ≠ 2) ∧ (k = 3 → k' ≠ 2) ∧ (s = true → k' ≠ 3 ∧ k' ≠ 4) ∧ (s = false → k' ≠ 6)
theorem ck_mono {ok ok' : Nat → Nat → Prop} (h : ∀ a b, ok a b → ok' a b) : ∀ (P : List Pc) (pk : Nat), Ck ok pk P → Ck ok' pk P
  | [], _, _ => trivial
  | t :: r, pk, hc => ⟨h _ _ hc.1, ck_mono h r t.1 hc.2⟩
theorem ck_s : ∀ (P : List Pc) (pk : Nat), pk ≠ 3 → Ck okS pk P → Ck (okB true) pk P
  | [], _, _, _ => trivial
  | t :: r, pk, h3, hc => by
    obtain ⟨⟨h1, h2⟩, h4⟩ := hc
    exact ⟨⟨by omega, h2, fun q => absurd q h3, fun _ => (by omega), fun q => (by cases q)⟩, ck_s r t.1 (by omega) h4⟩
theorem rd_ck {s : Bool} {p : List Nat} {P : List Pc} (h : rd s p = some P) : Ck (okB s) 0 P ∧ lastD 0 P ≠ 1 ∧ lastD 0 P ≠ 3 := by
  cases s with
  | true =>
    obtain ⟨h1, h2⟩ := read_ki sm_ok kd_s (c := ((0, 0) : Nat × Nat)) rfl ⟨fun q => (by cases q), fun _ => rfl⟩ h
    have hc := ck_s P 0 (by decide) h1
    refine ⟨hc, h2, ?_⟩
    have key : ∀ (P : List Pc) (pk : Nat), pk ≠ 3 → Ck okS pk P → lastD pk P ≠ 3 := by
      intro P
      induction P with
      | nil => exact fun pk h _ => h
      | cons t r ih => exact fun pk _ hc => ih t.1 (by have := hc.1.1; omega) hc.2
    exact key P 0 (by decide) h1
  | false =>
    obtain ⟨h1, h2⟩ := read_ki jm_ok kd_j (c := j0) rfl ⟨fun _ => rfl, fun q => (by cases q), fun q => (by cases q)⟩ h
    exact ⟨ck_mono (fun a b q => ⟨by have := q.1; omega, q.2.1, q.2.2, fun q => (by cases q), fun _ => by have := q.1; omega⟩) P 0 h1, h2⟩

/-! The items, as the program lays them. -/
/-- What stands between two tokens. -/
def gapI (s : Bool) (a b : Nat) : List It :=
  if s = true then (if a = 6 ∨ b = 2 then [] else if a = 1 then [bgn 0 true false] else [bk 1 0])
  else if a = 1 ∧ b = 2 then [] else if a = 1 then [bgn 2 false true, bk 0 0] else if b = 2 then [bk 0 (-2)] else if a = 3 then [bk 1 0] else []
def shutI (a b : Nat) : List It := if b = 2 ∧ a ≠ 1 then [en] else []
def itmP (ch : List Nat → Nat) (s : Bool) : Nat → List Pc → List It
  | _, [] => []
  | a, t :: r => gapI s a t.1 ++ (itx ch t :: (shutI a t.1 ++ itmP ch s t.1 r))
/-- What the items hold behind a token, ahead of one of a kind. -/
def opn' (s : Bool) (a b : Nat) : List It :=
  if a = 1 ∧ b ≠ 2 then (if s = true then [bgn 0 true false] else [bgn 2 false true, bk 0 0]) else if a = 3 then [bk 1 0] else []
def opnH (s : Bool) (pk : Nat) (P : List Pc) : List It := match P with | [] => [] | t :: _ => opn' s pk t.1
theorem itmP_eq (ch : List Nat → Nat) (s : Bool) : ∀ (P : List Pc) (a : Nat) (pk : Nat), (a = pk ∨ (a = 6 ∧ pk = 0)) → Ck (okB s) pk P → lastD pk P ≠ 1 → lastD pk P ≠ 3 → (s = true → a ≠ 3 ∧ a ≠ 4 ∧ a ≠ 0) → (1 ≤ a ∧ a ≤ 6) → (pk = 3 → s = false) →
    itmP ch s a P = opnH s pk P ++ itms ch s pk P
  | [], a, pk, _, _, _, _, _, _, _ => rfl
  | t :: r, a, pk, hap, hc, h1, h3, hs, ha, hps => by
    obtain ⟨⟨o1, o2, o3, o4, o5⟩, hcr⟩ := hc
    have ih := itmP_eq ch s r t.1 t.1 (Or.inl rfl) hcr h1 h3 (fun q => by have := o4 q; omega) o1 (fun q => by cases s with | false => rfl | true => have := (o4 rfl).1; exact absurd q this)
    show gapI s a t.1 ++ (itx ch t :: (shutI a t.1 ++ itmP ch s t.1 r)) = opn' s pk t.1 ++ (pre s pk t ++ (itx ch t :: (post s pk t (hk r) ++ itms ch s t.1 r)))
    have e1 : gapI s a t.1 = opn' s pk t.1 ++ pre s pk t := by
      unfold gapI opn' pre
      cases s with
      | true =>
        obtain ⟨s1, s2, s3⟩ := hs rfl
        rw [if_pos rfl]
        rcases hap with rfl | ⟨rfl, rfl⟩
        · by_cases q6 : a = 6
          · subst q6; simp
          · by_cases q2 : t.1 = 2
            · simp [q2, s1]
            · by_cases q1 : a = 1
              · simp [q1, q2]
              · have q5 : a = 5 ∨ a = 2 := by omega
                rw [if_neg (by omega), if_neg q1, if_neg (by omega), if_neg s1, if_pos ⟨rfl, q2, q5⟩]; rfl
        · simp
      | false =>
        rw [if_neg (by simp)]
        rcases hap with rfl | ⟨rfl, rfl⟩
        · by_cases q1 : a = 1
          · by_cases q2 : t.1 = 2
            · simp [q1, q2]
            · simp [q1, q2]
          · by_cases q2 : t.1 = 2
            · have q3 : a ≠ 3 := fun q => o3 q q2
              simp [q1, q2, q3]
            · simp [q1, q2]
        · have q2 := o2 rfl
          simp [q2]
    have e2 : shutI a t.1 ++ itmP ch s t.1 r = post s pk t (hk r) ++ itms ch s t.1 r := by
      rw [ih]
      have e3 : shutI a t.1 ++ opnH s t.1 r = post s pk t (hk r) := by
        have hsh : shutI a t.1 = if t.1 = 2 ∧ pk ≠ 1 then [en] else [] := by
          unfold shutI
          rcases hap with rfl | ⟨rfl, rfl⟩
          · rfl
          · simp
        rw [hsh]
        unfold post
        cases r with
        | nil =>
          have h1 : t.1 ≠ 1 := h1
          have h3 : t.1 ≠ 3 := h3
          show _ ++ [] = _
          rw [List.append_nil, if_neg (show ¬ (t.1 = 1 ∧ hk [] ≠ 2) from fun q => h1 q.1)]
          by_cases k2 : t.1 = 2 ∧ pk ≠ 1
          · rw [if_pos k2, if_pos k2]
          · rw [if_neg k2, if_neg k2, if_neg h3]
        | cons x r2 =>
          show _ ++ opn' s t.1 x.1 = _
          have ex : hk (x :: r2) = x.1 := rfl
          rw [ex]
          unfold opn'
          by_cases k2 : t.1 = 2 ∧ pk ≠ 1
          · rw [if_pos k2, if_neg (by omega), if_neg (by omega), if_neg (by omega), if_pos k2]; rfl
          · rw [if_neg k2, if_neg k2]; by_cases q : t.1 = 1 ∧ x.1 ≠ 2 <;> simp [q]
      rw [← List.append_assoc, e3]
    rw [e1, e2, List.append_assoc]
theorem itmP_itms (ch : List Nat → Nat) {s : Bool} {p : List Nat} {P : List Pc} (h : rd s p = some P) : itmP ch s 6 P = itms ch s 0 P := by
  obtain ⟨h1, h2, h3⟩ := rd_ck h
  have := itmP_eq ch s P 6 0 (Or.inr ⟨rfl, rfl⟩) h1 h2 h3 (fun _ => ⟨by decide, by decide, by decide⟩) ⟨by decide, by decide⟩ (fun q => by cases q)
  rw [this]
  cases P with
  | nil => rfl
  | cons t r => rfl
end Go.Proofs.PlatenTree

/- Each token lies in its text. -/
namespace Go.Proofs.PlatenTree
set_option linter.unusedVariables false

abbrev Tk := Nat × Nat × Nat
def Bd (fr i : Nat) (l : List Tk) : Prop := fr ≤ i ∧ ∀ t ∈ l, t.2.1 + t.2.2 ≤ i
theorem Bd.up {fr i : Nat} {l : List Tk} (h : Bd fr i l) : Bd fr (i + 1) l := ⟨by have := h.1; omega, fun t ht => by have := h.2 t ht; omega⟩
theorem Bd.new {fr i : Nat} {l : List Tk} (h : Bd fr i l) : Bd i (i + 1) l := ⟨by omega, fun t ht => by have := h.2 t ht; omega⟩
theorem Bd.push {fr i : Nat} {l : List Tk} (h : Bd fr i l) (k : Nat) {fr' : Nat} (hf : fr' ≤ i) : Bd fr' (i + 1) (l ++ [(k, i, 1)]) :=
  ⟨by omega, fun t ht => by
    rcases List.mem_append.1 ht with ht | ht
    · have := h.2 t ht; omega
    · simp at ht; subst ht; exact Nat.le_refl _⟩
theorem Bd.atom {fr i : Nat} {l : List Tk} (h : Bd fr i l) (k : Nat) : Bd fr i (l ++ [(k, fr, i - fr)]) :=
  ⟨h.1, fun t ht => by
    rcases List.mem_append.1 ht with ht | ht
    · exact h.2 t ht
    · simp at ht; subst ht; have := h.1; show fr + (i - fr) ≤ i; omega⟩
section
open Go.Proofs.PlatenSexp
def BS (r : Nat × Sm) (i : Nat) : Prop := r.1 = 0 → Bd r.2.fr i r.2.l
theorem bs_err {x i : Nat} {M : Sm} (h : x ≠ 0) : BS (x, M) i := fun q => absurd q h
theorem bs_ite {i : Nat} {c : Prop} [Decidable c] {p q : Nat × Sm} (h1 : c → BS p i) (h2 : ¬ c → BS q i) : BS (if c then p else q) i := by
  split
  · exact h1 ‹_›
  · exact h2 ‹_›
theorem start_bd {M : Sm} {i : Nat} (c : Nat) (h : Bd M.fr i M.l) : BS (start M c i) (i + 1) := by
  unfold start
  refine bs_ite (fun _ => fun _ => h.push 6 (Nat.le_refl _)) fun _ => bs_ite (fun _ => fun _ => h.new) fun _ => bs_ite (fun _ => bs_ite (fun _ => bs_err (by decide)) fun _ => fun _ => h.push 1 (Nat.le_refl _)) fun _ => bs_ite (fun _ => fun _ => h.new) fun _ => bs_ite (fun _ => fun _ => h.new) fun _ => bs_err (by decide)
theorem feedB_bd {M : Sm} {i : Nat} (c : Nat) (h : Bd M.fr i M.l) : BS (feedB M c i) (i + 1) := by
  unfold feedB
  exact bs_ite (fun _ => fun _ => h.up) fun _ => bs_ite (fun _ => bs_err (by decide)) fun _ => bs_ite (fun _ => fun _ => h.push 2 h.1) fun _ => start_bd c h
theorem sfeed_bd {M : Sm} {i : Nat} (c : Nat) (h : Bd M.fr i M.l) : BS (feed M c i) (i + 1) := by
  unfold feed
  refine bs_ite (fun _ => bs_ite (fun _ => fun _ => h.up.atom 5) fun _ => bs_ite (fun _ => fun _ => h.up) fun _ => fun _ => h.up) fun _ => bs_ite (fun _ => fun _ => h.up) fun _ => bs_ite (fun _ => bs_ite (fun _ => fun _ => h.up) fun _ => feedB_bd (M := ⟨aft M.dep, M.dep, M.fr, M.l ++ [(5, M.fr, i - M.fr)]⟩) c (h.atom 5)) fun _ => bs_ite (fun _ => bs_ite (fun _ => fun _ => h.up.atom 6) fun _ => feedB_bd (M := ⟨0, M.dep, M.fr, M.l ++ [(6, M.fr, i - M.fr)]⟩) c (h.atom 6)) fun _ => feedB_bd c h
theorem sfin_bd {M : Sm} {i : Nat} (h : Bd M.fr i M.l) : ∀ t ∈ (fin' M i).1, t.2.1 + t.2.2 ≤ i := by
  unfold fin' finA
  by_cases h3 : M.st = 3
  · rw [if_pos h3]
    split
    · intro t ht; cases ht
    · exact (h.atom 5).2
  · rw [if_neg h3]
    split
    · intro t ht; cases ht
    · exact h.2
theorem srun_bd (f : Nat → Nat) : ∀ (k i : Nat) (M : Sm), Bd M.fr i M.l → ∀ t ∈ (Go.Proofs.PlatenSexp.run f k i M).1, t.2.1 + t.2.2 ≤ i + k
  | 0, i, M, h => sfin_bd h
  | k + 1, i, M, h => by
    intro t ht
    have hf := sfeed_bd (f i) h
    unfold Go.Proofs.PlatenSexp.run at ht
    by_cases h0 : (feed M (f i) i).1 = 0
    · rw [if_pos h0] at ht
      have := srun_bd f k (i + 1) _ (hf h0) t ht
      omega
    · rw [if_neg h0] at ht; cases ht
theorem sans_bd (f : Nat → Nat) (n : Nat) : ∀ t ∈ (ans f n).1, t.2.1 + t.2.2 ≤ n := by
  intro t ht
  have := srun_bd f (n - 0) 0 M0 ⟨Nat.le_refl _, fun t ht => by cases ht⟩ t ht
  omega
end
section
open Go.Proofs.PlatenJson
def BJ (r : Nat × Mc) (i : Nat) : Prop := r.1 = 0 → Bd r.2.fr i r.2.l
theorem bj_err {x i : Nat} {M : Mc} (h : x ≠ 0) : BJ (x, M) i := fun q => absurd q h
theorem bj_ite {i : Nat} {c : Prop} [Decidable c] {p q : Nat × Mc} (h1 : c → BJ p i) (h2 : ¬ c → BJ q i) : BJ (if c then p else q) i := by
  split
  · exact h1 ‹_›
  · exact h2 ‹_›
theorem begin_bd {M : Mc} {i : Nat} (c : Nat) (h : Bd M.fr i M.l) : BJ (begin' M c i) (i + 1) := by
  unfold begin'
  exact bj_ite (fun _ => bj_ite (fun _ => bj_err (by decide)) fun _ => fun _ => h.push 1 (Nat.le_refl _)) fun _ => bj_ite (fun _ => fun _ => h.new) fun _ => bj_ite (fun _ => fun _ => h.new) fun _ => bj_ite (fun _ => fun _ => h.new) fun _ => bj_ite (fun _ => fun _ => h.new) fun _ => bj_ite (fun _ => fun _ => h.new) fun _ => bj_ite (fun _ => fun _ => h.new) fun _ => bj_ite (fun _ => fun _ => h.new) fun _ => bj_err (by decide)
theorem next_bd {M : Mc} {i : Nat} (c : Nat) (h : Bd M.fr i M.l) : BJ (next M c i) (i + 1) := by
  unfold next
  cases M.stack with
  | nil => exact bj_err (by decide)
  | cons b S => exact bj_ite (fun _ => fun _ => h.push 3 h.1) fun _ => bj_ite (fun _ => fun _ => h.push 3 h.1) fun _ => bj_ite (fun _ => fun _ => h.push 2 h.1) fun _ => bj_err (by decide)
theorem inside_bd {M : Mc} {i : Nat} (c : Nat) (h : Bd M.fr i M.l) : BJ (inside M c i) (i + 1) := by
  unfold inside
  refine bj_ite (fun _ => bj_ite (fun _ => bj_err (by decide)) fun _ => bj_ite (fun _ => fun _ => h.up.atom 5) fun _ => bj_ite (fun _ => fun _ => h.up) fun _ => fun _ => h.up) fun _ => bj_ite (fun _ => bj_ite (fun _ => fun _ => h.up) fun _ => bj_ite (fun _ => fun _ => h.up) fun _ => bj_err (by decide)) fun _ => bj_ite (fun _ => bj_ite (fun _ => fun _ => h.up) fun _ => bj_err (by decide)) fun _ => ?_
  cases M.left with
  | nil => exact bj_err (by decide)
  | cons b r => exact bj_ite (fun _ => bj_err (by decide)) fun _ => bj_ite (fun _ => fun _ => h.up.atom 5) fun _ => fun _ => h.up
theorem feedA_bd {M : Mc} {i : Nat} (c : Nat) (h : Bd M.fr i M.l) : BJ (feedA M c i) (i + 1) := by
  unfold feedA
  exact bj_ite (fun _ => inside_bd c h) fun _ => bj_ite (fun _ => bj_err (by decide)) fun _ => bj_ite (fun _ => fun _ => h.up) fun _ => bj_ite (fun _ => begin_bd c h) fun _ => bj_ite (fun _ => bj_ite (fun _ => next_bd c h) fun _ => begin_bd c h) fun _ => bj_ite (fun _ => bj_ite (fun _ => next_bd c h) fun _ => bj_ite (fun _ => bj_err (by decide)) fun _ => fun _ => h.new) fun _ => bj_ite (fun _ => bj_ite (fun _ => bj_err (by decide)) fun _ => fun _ => h.push 4 h.1) fun _ => next_bd c h
theorem jfeed_bd {M : Mc} {i : Nat} (c : Nat) (h : Bd M.fr i M.l) : BJ (feed M c i) (i + 1) := by
  unfold feed
  refine bj_ite (fun _ => fun _ => h.up) fun _ => ?_
  by_cases he : ends M.st = true
  · rw [if_pos he]; exact feedA_bd (M := Go.Proofs.PlatenJson.atom M i) c (h.atom 5)
  · rw [if_neg he]; exact feedA_bd c h
theorem jfinA_bd {M : Mc} {n i : Nat} (h : Bd M.fr i M.l) : ∀ t ∈ (finA M n).1, t.2.1 + t.2.2 ≤ i := by
  unfold finA
  split
  · intro t ht; cases ht
  · exact h.2
theorem jfin_bd {M : Mc} {i : Nat} (h : Bd M.fr i M.l) : ∀ t ∈ (fin' M i).1, t.2.1 + t.2.2 ≤ i := by
  unfold fin'
  by_cases he : ends M.st = true
  · rw [if_pos he]; exact jfinA_bd (M := Go.Proofs.PlatenJson.atom M i) (h.atom 5)
  · rw [if_neg he]; exact jfinA_bd h
theorem jrun_bd (f : Nat → Nat) : ∀ (k i : Nat) (M : Mc), Bd M.fr i M.l → ∀ t ∈ (Go.Proofs.PlatenJson.run f k i M).1, t.2.1 + t.2.2 ≤ i + k
  | 0, i, M, h => jfin_bd h
  | k + 1, i, M, h => by
    intro t ht
    have hf := jfeed_bd (f i) h
    unfold Go.Proofs.PlatenJson.run at ht
    by_cases h0 : (feed M (f i) i).1 = 0
    · rw [if_pos h0] at ht
      have := jrun_bd f k (i + 1) _ (hf h0) t ht
      omega
    · rw [if_neg h0] at ht; cases ht
theorem jans_bd (f : Nat → Nat) (n : Nat) : ∀ t ∈ (ans f n).1, t.2.1 + t.2.2 ≤ n := by
  intro t ht
  have := jrun_bd f (n - 0) 0 M0 ⟨Nat.le_refl _, fun t ht => by cases ht⟩ t ht
  omega
end
/-! Both languages at once. -/
def ansT (s : Bool) (f : Nat → Nat) (n : Nat) : List Tk × Nat × Nat := if s = true then Go.Proofs.PlatenSexp.ans f n else Go.Proofs.PlatenJson.ans f n
def ansL (s : Bool) (p : List Nat) : List Tk × Nat × Nat := ansT s (fun j => p.getD j 0) p.length
theorem ansL_bd (s : Bool) (p : List Nat) : ∀ t ∈ (ansL s p).1, t.2.1 + t.2.2 ≤ p.length := by
  unfold ansL ansT
  cases s with
  | true => exact sans_bd _ _
  | false => exact jans_bd _ _
theorem ansL_rd (s : Bool) (p : List Nat) : Ans p (ansL s p) (rd s p) := by
  cases s with
  | true => exact sexp_ans p
  | false => exact json_ans p
/-- A text that can be read. -/
theorem ansL_ok {s : Bool} {p : List Nat} {P : List Pc} (h : rd s p = some P) : ∃ T, ansL s p = (T, 0, 0) ∧ T.map (pcs p) = P ∧ ∀ t ∈ T, t.2.1 + t.2.2 ≤ p.length := by
  have ha := ansL_rd s p
  rw [h] at ha
  obtain ⟨T, e1, e2⟩ := ha
  refine ⟨T, e1, e2, fun t ht => ansL_bd s p t (by rw [e1]; exact ht)⟩
theorem ansL_no {s : Bool} {p : List Nat} (h : rd s p = none) : (ansL s p).2.2 ≠ 0 := by
  have ha := ansL_rd s p
  rw [h] at ha
  exact ha
theorem ansL_zero {s : Bool} {p : List Nat} (h : (ansL s p).2.2 = 0) : ∃ P, rd s p = some P := by
  cases hr : rd s p with
  | none => exact absurd h (ansL_no hr)
  | some P => exact ⟨P, rfl⟩
end Go.Proofs.PlatenTree

/- A colon is one byte. -/
namespace Go.Proofs.PlatenTree
set_option linter.unusedVariables false

def Co (P : List Pc) : Prop := ∀ t ∈ P, t.1 = 4 → t.2 = [58]
theorem co_snoc {P : List Pc} {x : Pc} (h : Co P) (hx : x.1 = 4 → x.2 = [58]) : Co (P ++ [x]) := fun t ht => by
  rcases List.mem_append.1 ht with ht | ht
  · exact h t ht
  · simp at ht; rw [ht]; exact hx
theorem jf0_co {c c' : Jc} {b k : Nat} (h : jf0 c b = .whole k c') : k = 4 → b = 58 := by
  intro hk
  have hn : ∀ c : Jc, jnext c b = .whole k c' → False := by
    intro c h
    have := jnext_kd (k := 1) h (by decide) (by decide)
    unfold jnext at h
    cases hs : c.stack with
    | nil => rw [hs] at h; cases h
    | cons x S =>
      rw [hs] at h
      simp only at h
      repeat' (split at h)
      all_goals (first | (injection h with h1 h2; omega) | (cases h; done))
  have hb : jbegin c b = .whole k c' → False := by
    intro h
    unfold jbegin at h
    repeat' (split at h)
    all_goals (first | (injection h with h1 h2; omega) | (cases h; done))
  unfold jf0 at h
  split at h
  · cases h
  split at h
  · exact absurd h hb
  split at h
  · split at h
    · exact absurd h (hn c)
    · exact absurd h hb
  split at h
  · split at h
    · exact absurd h (hn c)
    · split at h <;> cases h
  split at h
  · split at h
    · cases h
    · rename_i q; simpa using q
  · exact absurd h (hn c)
theorem japp_co {c : Jc} {buf : List Nat} {P : List Pc} {s' : St JM} {b : Nat} (hP : Co P) (h : app JM (jf0 c b) (c, buf, P) b = some s') : Co s'.2.2 := by
  cases hf : jf0 c b with
  | bad => rw [hf] at h; simp [app] at h
  | blank => rw [hf] at h; simp [app] at h; rw [← h]; exact hP
  | more c' => exact absurd hf (jm_ok.m0 _ _ _)
  | last k c' => exact absurd hf (jm_ok.l0 _ _ _ _)
  | start c' => rw [hf] at h; simp [app] at h; rw [← h]; exact hP
  | whole k c' =>
    rw [hf] at h; simp [app] at h; rw [← h]
    exact co_snoc hP (fun q => by show [b] = [58]; rw [jf0_co hf q])
theorem jfd_co {s s' : St JM} {b : Nat} (hs : Co s.2.2) (h : fd JM s b = some s') : Co s'.2.2 := by
  obtain ⟨c, buf, P⟩ := s
  cases hm : JM.mid c with
  | false => rw [fd_out (s := ((c, buf, P) : St JM)) hm] at h; exact japp_co hs h
  | true =>
    cases h1 : JM.f1 c b with
    | some r =>
      rw [fd_some (s := ((c, buf, P) : St JM)) hm h1] at h
      cases r with
      | bad => simp [app] at h
      | blank => exact absurd h1 (jm_ok.b1 _ _)
      | start c => exact absurd h1 (jm_ok.s1 _ _ _)
      | whole k c => exact absurd h1 (jm_ok.w1 _ _ _ _)
      | more c' => simp [app] at h; rw [← h]; exact hs
      | last k c' =>
        simp [app] at h
        rw [← h]
        have : k = 5 := (jm_ok.l1 _ _ _ _ h1).2
        exact co_snoc hs (fun q => by have q : k = 4 := q; omega)
    | none =>
      cases hz : JM.lz c with
      | none => simp [fd, hm, h1, hz] at h
      | some kc =>
        obtain ⟨k, c'⟩ := kc
        rw [fd_lazy (s := ((c, buf, P) : St JM)) hm h1 hz] at h
        have : k = 5 := (jm_ok.lzm _ _ _ hz).2.2
        exact japp_co (co_snoc hs (fun q => by have q : k = 4 := q; omega)) h
theorem jrun_co : ∀ (p : List Nat) (s s' : St JM), Co s.2.2 → run JM p s = some s' → Co s'.2.2
  | [], s, s', hs, h => by injection h with h; rw [← h]; exact hs
  | b :: r, s, s', hs, h => by
    rw [run_cons] at h
    cases hf : fd JM s b with
    | none => rw [hf] at h; cases h
    | some s2 => rw [hf] at h; exact jrun_co r s2 s' (jfd_co hs hf) h
theorem rd_colon {s : Bool} {p : List Nat} {P : List Pc} (h : rd s p = some P) : Co P := by
  cases s with
  | true =>
    have hc := (rd_ck (s := true) h).1
    have key : ∀ (L : List Pc) (a : Nat), Ck (okB true) a L → Co L := by
      intro L
      induction L with
      | nil => intro a _ t ht; cases ht
      | cons x r ih =>
        intro a hc t ht
        rcases List.mem_cons.1 ht with rfl | ht
        · intro q; exact absurd q (hc.1.2.2.2.1 rfl).2
        · exact ih x.1 hc.2 t ht
    exact key P 0 hc
  | false =>
    have h : read JM j0 p = some P := h
    unfold read at h
    cases hr : run JM p (j0, [], []) with
    | none => rw [hr] at h; cases h
    | some sf =>
      rw [hr] at h
      have hw := jrun_co p (j0, [], []) sf (fun t ht => by cases ht) hr
      have h : fin JM sf = some P := h
      cases hm : JM.mid sf.1 with
      | false =>
        rw [fin_out hm] at h
        split at h
        · injection h with h; rw [← h]; exact hw
        · cases h
      | true =>
        cases hz : JM.lz sf.1 with
        | none => rw [fin_mid hm hz] at h; cases h
        | some kc =>
          obtain ⟨k, c'⟩ := kc
          rw [fin_lazy hm hz] at h
          split at h
          · injection h with h
            rw [← h]
            have : k = 5 := (jm_ok.lzm _ _ _ hz).2.2
            exact co_snoc hw (fun q => by have q : k = 4 := q; omega)
          · cases h
end Go.Proofs.PlatenTree

/- How long a text made of nodes is; its bytes. -/
namespace Go.Proofs.PlatenTree
set_option linter.unusedVariables false

theorem name_lt (n : Nat) : ∀ c ∈ nameB n, c < 256 := by
  unfold nameB
  split <;> decide
theorem gap_len (s : Bool) (x : Nd) : (gap s x).length ≤ 4 := by
  unfold gap
  by_cases h1 : s = true ∧ x.kind % 8 = 7
  · rw [if_pos h1, if_neg (show ¬ (s = true ∧ x.kind % 8 = 6) from fun q => by omega)]; split <;> simp
  · rw [if_neg h1]; split <;> split <;> simp
theorem gap_none (s : Bool) : gap s ⟨0, 0⟩ = [] := by unfold gap; simp
theorem gap_lt (s : Bool) (x : Nd) : ∀ c ∈ gap s x, c < 256 := by
  intro c hc
  unfold gap at hc
  rcases List.mem_append.1 hc with hc | hc
  · split at hc
    · simp at hc; omega
    · cases hc
  · rcases List.mem_append.1 hc with hc | hc
    · split at hc
      · simp at hc; omega
      · cases hc
    · split at hc
      · simp at hc; omega
      · cases hc
theorem atom_len (s : Bool) (l : List Nd) : (gap s (hd l) ++ nameB (hd l).n).length + 27 * l.tail.length ≤ 27 * l.length + 1 := by
  cases l with
  | nil =>
    show (gap s ⟨0, 0⟩ ++ nameB 0).length + 0 ≤ 1
    rw [gap_none]; decide
  | cons x r =>
    have h1 := gap_len s x
    have h2 := name_len x.n
    show (gap s x ++ nameB x.n).length + 27 * r.length ≤ 27 * (r.length + 1) + 1
    rw [List.length_append]
    omega
theorem parts_len (s named : Bool) (f : Nat) (ih : ∀ l, (mk s f l).1.length + 27 * (mk s f l).2.length ≤ 27 * l.length + 1) : ∀ (m : Nat) (first : Bool) (l : List Nd),
    (parts s named (mk s f) m first l).1.length + 27 * (parts s named (mk s f) m first l).2.length ≤ 27 * l.length + 7 * m
  | 0, _, l => by show 0 + 27 * l.length ≤ _; omega
  | m + 1, first, l => by
    have h1 := ih l
    have h2 := parts_len s named f ih m false (mk s f l).2
    have e1 : (parts s named (mk s f) (m + 1) first l).1 = (if first then [] else if s then [32] else [44]) ++ ((if named then [34, 107, 34, 32, 58] else []) ++ ((mk s f l).1 ++ (parts s named (mk s f) m false (mk s f l).2).1)) := rfl
    have e2 : (parts s named (mk s f) (m + 1) first l).2 = (parts s named (mk s f) m false (mk s f l).2).2 := rfl
    rw [e1, e2, List.length_append, List.length_append, List.length_append]
    have h3 : (if first then ([] : List Nat) else if s then [32] else [44]).length ≤ 1 := by split <;> (try split) <;> simp
    have h4 : (if named then ([34, 107, 34, 32, 58] : List Nat) else []).length ≤ 5 := by split <;> simp
    omega
theorem mk_len (s : Bool) : ∀ (f : Nat) (l : List Nd), (mk s f l).1.length + 27 * (mk s f l).2.length ≤ 27 * l.length + 1
  | 0, l => atom_len s l
  | f + 1, l => by
    unfold mk
    by_cases h : (hd l).kind % 4 = 0
    · rw [if_pos h]; exact atom_len s l
    · rw [if_neg h]
      cases l with
      | nil => exact absurd rfl h
      | cons x r =>
        have hp := parts_len s (nmd s x) f (mk_len s f) (x.n % 4) true r
        have hg := gap_len s x
        show (gap s x ++ (opn s x :: ((parts s (nmd s x) (mk s f) (x.n % 4) true r).1 ++ [cls s x]))).length + 27 * (parts s (nmd s x) (mk s f) (x.n % 4) true r).2.length ≤ 27 * (r.length + 1) + 1
        rw [List.length_append, List.length_cons, List.length_append, List.length_singleton]
        omega
theorem parts_lt (s named : Bool) (f : Nat) (ih : ∀ l, ∀ c ∈ (mk s f l).1, c < 256) : ∀ (m : Nat) (first : Bool) (l : List Nd), ∀ c ∈ (parts s named (mk s f) m first l).1, c < 256
  | 0, _, l, c, hc => by cases hc
  | m + 1, first, l, c, hc => by
    have e1 : (parts s named (mk s f) (m + 1) first l).1 = (if first then [] else if s then [32] else [44]) ++ ((if named then [34, 107, 34, 32, 58] else []) ++ ((mk s f l).1 ++ (parts s named (mk s f) m false (mk s f l).2).1)) := rfl
    rw [e1] at hc
    rcases List.mem_append.1 hc with hc | hc
    · split at hc
      · cases hc
      · split at hc <;> (simp at hc; omega)
    rcases List.mem_append.1 hc with hc | hc
    · split at hc
      · simp at hc; omega
      · cases hc
    rcases List.mem_append.1 hc with hc | hc
    · exact ih l c hc
    · exact parts_lt s named f ih m false _ c hc
theorem mk_lt (s : Bool) : ∀ (f : Nat) (l : List Nd), ∀ c ∈ (mk s f l).1, c < 256
  | 0, l, c, hc => by
    rcases List.mem_append.1 (show c ∈ gap s (hd l) ++ nameB (hd l).n from hc) with hc | hc
    · exact gap_lt s _ c hc
    · exact name_lt _ c hc
  | f + 1, l, c, hc => by
    unfold mk at hc
    by_cases h : (hd l).kind % 4 = 0
    · rw [if_pos h] at hc
      rcases List.mem_append.1 hc with hc | hc
      · exact gap_lt s _ c hc
      · exact name_lt _ c hc
    · rw [if_neg h] at hc
      rcases List.mem_append.1 hc with hc | hc
      · exact gap_lt s _ c hc
      rcases List.mem_cons.1 hc with hc | hc
      · rw [hc]; unfold opn; repeat' split
        all_goals omega
      rcases List.mem_append.1 hc with hc | hc
      · exact parts_lt s _ f (mk_lt s f) _ _ _ c hc
      · simp at hc
        rw [hc]; unfold cls; repeat' split
        all_goals omega
end Go.Proofs.PlatenTree
