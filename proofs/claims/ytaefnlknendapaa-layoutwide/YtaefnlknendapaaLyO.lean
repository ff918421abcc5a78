/- Words with breaks between; a whole group that doesn't fit. -/
import Derived.Test.YtaefnlknendapaaLyM
namespace Go.Proofs.PlatenLayout
set_option linter.unusedVariables false

def txIt (w : List Nat) : It := ⟨1, w, w.length, 0, 0, false, false⟩
def bkIt : It := ⟨2, [], 0, 1, 0, false, false⟩
def enIt : It := ⟨4, [], 0, 0, 0, false, false⟩
/-- A break and a word, for each word. -/
def V (ws : List (List Nat)) : List It := ws.flatMap fun w => [bkIt, txIt w]
theorem V_cons (w : List Nat) (ws : List (List Nat)) : V (w :: ws) = bkIt :: txIt w :: V ws := rfl
theorem V_snoc (ws : List (List Nat)) (w : List Nat) : V (ws ++ [w]) = V ws ++ [bkIt, txIt w] := by simp [V]

/-! A line is too long only where it has one word. -/
/-- What the law asks of the text from here, where c signs and k words stand on the line. -/
def okL (w : Int) : List Nat → Nat → Nat → Prop
  | [], c, k => ¬ ((w < (c : Nat)) ∧ 1 < k)
  | a :: r, c, k => if a = 10 then ¬ ((w < (c : Nat)) ∧ 1 < k) ∧ okL w r 0 1 else okL w r (c + 1) (if a = 32 then k + 1 else k)
theorem okL_word (w : Int) : ∀ (x r : List Nat) (c k : Nat), (∀ a ∈ x, a ≠ 10 ∧ a ≠ 32) → (okL w (x ++ r) c k ↔ okL w r (c + x.length) k)
  | [], r, c, k, h => Iff.rfl
  | a :: x, r, c, k, h => by
    obtain ⟨h1, h2⟩ := h a (by simp)
    have := okL_word w x r (c + 1) k (fun b hb => h b (by simp [hb]))
    rw [List.cons_append, List.length_cons, show c + (x.length + 1) = c + 1 + x.length by omega, ← this]
    unfold okL
    rw [if_neg h1, if_neg h2]
    cases x ++ r <;> exact Iff.rfl
theorem brk_V (ws : List (List Nat)) : brk (V ws) 0 = 0 := by
  cases ws with
  | nil => rfl
  | cons w ws => rw [V_cons]; rfl
theorem brk_tx (w : List Nat) (ws : List (List Nat)) : brk (txIt w :: V ws) 0 = w.length := by
  have h : brk (txIt w :: V ws) 0 = (txIt w).own + brk (V ws) 0 := rfl
  rw [h, brk_V]
  rfl
theorem lay_over (w : Int) (hw : 0 ≤ w) : ∀ (ws : List (List Nat)) (s : Ly) (c k : Nat), (∀ x ∈ ws, (∀ a ∈ x, a ≠ 10 ∧ a ≠ 32) ∧ 1 ≤ x.length ∧ x.length ≤ 20) → s.g = ⟨false, false, 0⟩ → s.col = (c : Nat) → (1 < k → ((c : Nat) : Int) ≤ w) → (∀ r, okL w r c k → okL w (s.p ++ r) 0 1) → s.p.length + 21 * ws.length ≤ most →
    ∃ q, lay w (V ws) s = some q ∧ okL w q 0 1
  | [], s, c, k, hx, hg, hc, hk, hs, hm => by
    refine ⟨s.p, rfl, ?_⟩
    have := hs [] (by unfold okL; rintro ⟨a, b⟩; have := hk b; omega)
    rwa [List.append_nil] at this
  | x :: ws, s, c, k, hx, hg, hc, hk, hs, hm => by
    obtain ⟨hx1, hx2, hx3⟩ := hx x (by simp)
    rw [List.length_cons] at hm
    have hsz : size (bkIt :: txIt x :: V ws) = 1 + x.length := by
      have : size (bkIt :: txIt x :: V ws) = 1 + brk (txIt x :: V ws) 0 := rfl
      rw [this, brk_tx]
    have hsz2 : size (txIt x :: V ws) = x.length := rfl
    rw [V_cons]
    by_cases hf : ((1 + x.length : Nat) : Int) ≤ w - (c : Nat)
    · have e1 : stepL w s bkIt (txIt x :: V ws) = { s with p := s.p ++ [32], col := ((c + 1 : Nat) : Int) } := by
        simp only [stepL, hsz, hg, hc]
        simp only [bkIt]
        simp [sp]
        omega
      have e2 : stepL w { s with p := s.p ++ [32], col := ((c + 1 : Nat) : Int) } (txIt x) (V ws) = { s with p := s.p ++ [32] ++ x, col := ((c + 1 + x.length : Nat) : Int) } := by
        simp only [stepL, hsz2]
        simp [txIt]
      obtain ⟨q, h1, h2⟩ := lay_over w hw ws { s with p := s.p ++ [32] ++ x, col := ((c + 1 + x.length : Nat) : Int) } (c + 1 + x.length) (k + 1) (fun y hy => hx y (by simp [hy])) hg rfl (fun _ => by omega)
        (fun r hr => by
          show okL w (s.p ++ [32] ++ x ++ r) 0 1
          rw [List.append_assoc, List.append_assoc]
          refine hs _ ?_
          show okL w (32 :: (x ++ r)) c k
          unfold okL
          rw [if_neg (by decide), if_pos rfl]
          exact (okL_word w x r (c + 1) (k + 1) hx1).2 hr)
        (by simp; omega)
      refine ⟨q, ?_, h2⟩
      unfold lay
      rw [e1, if_neg (by simp; omega)]
      unfold lay
      rw [e2, if_neg (by simp; omega)]
      exact h1
    · have e1 : stepL w s bkIt (txIt x :: V ws) = { s with p := s.p ++ [10], col := 0 } := by
        simp only [stepL, hsz, hg, hc]
        simp only [bkIt]
        simp [sp]
        omega
      have e2 : stepL w { s with p := s.p ++ [10], col := 0 } (txIt x) (V ws) = { s with p := s.p ++ [10] ++ x, col := ((x.length : Nat) : Int) } := by
        simp only [stepL, hsz2]
        simp [txIt]
      obtain ⟨q, h1, h2⟩ := lay_over w hw ws { s with p := s.p ++ [10] ++ x, col := ((x.length : Nat) : Int) } x.length 1 (fun y hy => hx y (by simp [hy])) hg rfl (fun h => absurd h (by decide))
        (fun r hr => by
          show okL w (s.p ++ [10] ++ x ++ r) 0 1
          rw [List.append_assoc, List.append_assoc]
          refine hs _ ?_
          show okL w (10 :: (x ++ r)) c k
          unfold okL
          rw [if_pos rfl]
          refine ⟨fun ⟨a, b⟩ => by have := hk b; omega, (okL_word w x r 0 1 hx1).2 ?_⟩
          rw [Nat.zero_add]
          exact hr)
        (by simp; omega)
      refine ⟨q, ?_, h2⟩
      unfold lay
      rw [e1, if_neg (by simp; omega)]
      unfold lay
      rw [e2, if_neg (by simp; omega)]
      exact h1
/-- Words with breaks between, in no group. -/
theorem over (w : Int) (hw : 0 ≤ w) (x : List Nat) (ws : List (List Nat)) (h : ∀ y ∈ x :: ws, (∀ a ∈ y, a ≠ 10 ∧ a ≠ 32) ∧ 1 ≤ y.length ∧ y.length ≤ 20) (hn : ws.length ≤ 1000) :
    ∃ q, lay w (txIt x :: V ws) s0 = some q ∧ okL w q 0 1 := by
  obtain ⟨hx1, hx2, hx3⟩ := h x (by simp)
  have hsz2 : size (txIt x :: V ws) = x.length := rfl
  have e2 : stepL w s0 (txIt x) (V ws) = { s0 with p := x, col := ((x.length : Nat) : Int) } := by
    simp only [stepL, hsz2]
    simp [txIt, s0]
  obtain ⟨q, h1, h2⟩ := lay_over w hw ws { s0 with p := x, col := ((x.length : Nat) : Int) } x.length 1 (fun y hy => h y (by simp [hy])) rfl rfl (fun h => absurd h (by decide))
    (fun r hr => (okL_word w x r 0 1 hx1).2 (by rw [Nat.zero_add]; exact hr)) (by show x.length + 21 * ws.length ≤ 65536; omega)
  refine ⟨q, ?_, h2⟩
  unfold lay
  rw [e2, if_neg (by show ¬ 65536 < x.length; omega)]
  exact h1

/-! A whole group that doesn't fit. -/
theorem grp_V (ws : List (List Nat)) : grp (V ws ++ [enIt]) 0 = sum (V ws) := by
  induction ws with
  | nil => rfl
  | cons w ws ih =>
    rw [V_cons, List.cons_append, List.cons_append]
    have : grp (bkIt :: txIt w :: (V ws ++ [enIt])) 0 = bkIt.own + ((txIt w).own + grp (V ws ++ [enIt]) 0) := rfl
    rw [this, ih]
    rfl
def far (ind : Nat) (ws : List (List Nat)) : List Nat := ws.flatMap fun w => [10] ++ sp ind ++ w
theorem far_cons (ind : Nat) (w : List Nat) (ws : List (List Nat)) : far ind (w :: ws) = [10] ++ sp ind ++ w ++ far ind ws := by simp [far]
theorem far_snoc (ind : Nat) (ws : List (List Nat)) (w : List Nat) : far ind (ws ++ [w]) = far ind ws ++ ([10] ++ sp ind ++ w) := by simp [far]
theorem lay_far (w : Int) (ind : Nat) : ∀ (ws : List (List Nat)) (s : Ly), s.g = ⟨false, true, (ind : Nat)⟩ → (s.p ++ far ind ws).length ≤ most → lay w (V ws ++ [enIt]) s = some (s.p ++ far ind ws)
  | [], s, hg, hm => by
    have e : (stepL w s enIt []).p = s.p := by
      simp only [stepL, enIt]
      cases s.gs <;> simp
    show lay w (enIt :: []) s = _
    unfold lay
    rw [e, if_neg (by have : (s.p ++ far ind []).length = s.p.length := by simp [far]
                      omega)]
    unfold lay
    rw [e]
    simp [far]
  | x :: ws, s, hg, hm => by
    rw [V_cons, List.cons_append, List.cons_append]
    rw [far_cons] at hm ⊢
    have e1 : stepL w s bkIt (txIt x :: (V ws ++ [enIt])) = { s with p := s.p ++ [10] ++ sp ind, col := (ind : Nat) } := by
      simp only [stepL, hg]
      simp [bkIt]
    have hsz2 : size (txIt x :: (V ws ++ [enIt])) = x.length := rfl
    have e2 : stepL w { s with p := s.p ++ [10] ++ sp ind, col := (ind : Nat) } (txIt x) (V ws ++ [enIt]) = { s with p := s.p ++ [10] ++ sp ind ++ x, col := ((ind + x.length : Nat) : Int) } := by
      simp only [stepL, hsz2]
      simp [txIt]
    have hl : (s.p ++ [10] ++ sp ind ++ x ++ far ind ws) = s.p ++ ([10] ++ sp ind ++ x ++ far ind ws) := by simp
    unfold lay
    rw [e1, if_neg (by rw [← hl] at hm; simp only [List.length_append] at hm ⊢; omega)]
    unfold lay
    rw [e2, if_neg (by rw [← hl] at hm; simp only [List.length_append] at hm ⊢; omega)]
    rw [lay_far w ind ws { s with p := s.p ++ [10] ++ sp ind ++ x, col := ((ind + x.length : Nat) : Int) } hg (by rw [hl]; exact hm)]
    rw [hl]
def flatV (ws : List (List Nat)) : List Nat := ws.flatMap fun w => 32 :: w
theorem flatV_snoc (ws : List (List Nat)) (w : List Nat) : flatV (ws ++ [w]) = flatV ws ++ 32 :: w := by simp [flatV]
theorem sum_V (ws : List (List Nat)) : sum (V ws) = (flatV ws).length := by
  induction ws with
  | nil => rfl
  | cons w ws ih =>
    rw [V_cons]
    have : sum (bkIt :: txIt w :: V ws) = 1 + (w.length + sum (V ws)) := rfl
    rw [this, ih]
    simp [flatV]
    omega
theorem flatL_V (ws : List (List Nat)) : flatL (V ws ++ [enIt]) = flatV ws := by
  induction ws with
  | nil => rfl
  | cons w ws ih =>
    rw [V_cons, List.cons_append, List.cons_append]
    have : flatL (bkIt :: txIt w :: (V ws ++ [enIt])) = sp 1 ++ (w ++ flatL (V ws ++ [enIt])) := rfl
    rw [this, ih]
    simp [flatV, sp]
theorem inner_V (ws : List (List Nat)) : inner (V ws ++ [enIt]) 1 := by
  induction ws with
  | nil => exact trivial
  | cons w ws ih =>
    rw [V_cons, List.cons_append, List.cons_append]
    exact ⟨Nat.one_pos, ih⟩
theorem sum_Ve (ws : List (List Nat)) : sum (V ws ++ [enIt]) = sum (V ws) := by
  induction ws with
  | nil => rfl
  | cons w ws ih =>
    rw [V_cons, List.cons_append, List.cons_append]
    have : sum (bkIt :: txIt w :: (V ws ++ [enIt])) = 1 + (w.length + sum (V ws ++ [enIt])) := rfl
    rw [this, ih]
    rfl
/-- An x, then a whole group that stands in by off: each word behind a break. -/
theorem whole (w : Int) (off : Nat) (ws : List (List Nat)) (h1 : (flatV ws).length ≤ 10000) (h2 : (far off ws).length ≤ 20000) :
    lay w (txIt [120] :: ⟨3, [], 0, 0, (off : Nat), false, true⟩ :: (V ws ++ [enIt])) s0 = some (if (((120 :: flatV ws).length : Nat) : Int) ≤ w ∨ ws = [] then 120 :: flatV ws else 120 :: far off ws) := by
  have hsz : size (⟨3, [], 0, 0, (off : Nat), false, true⟩ :: (V ws ++ [enIt])) = (flatV ws).length := by
    have : size (⟨3, [], 0, 0, (off : Nat), false, true⟩ :: (V ws ++ [enIt])) = grp (V ws ++ [enIt]) 0 := rfl
    rw [this, grp_V, sum_V]
  have e1 : stepL w s0 (txIt [120]) (⟨3, [], 0, 0, (off : Nat), false, true⟩ :: (V ws ++ [enIt])) = { s0 with p := [120], col := 1 } := rfl
  have e2 : stepL w { s0 with p := [120], col := 1 } ⟨3, [], 0, 0, (off : Nat), false, true⟩ (V ws ++ [enIt]) = ⟨[120], 1, ⟨decide ((((flatV ws).length : Nat) : Int) ≤ w - 1), true, (off : Nat)⟩, [s0.g]⟩ := by
    simp only [stepL, hsz]
    simp [s0]
  unfold lay
  rw [e1, if_neg (by show ¬ 65536 < 1; decide)]
  unfold lay
  rw [e2, if_neg (by show ¬ 65536 < 1; decide)]
  by_cases hf : (((flatV ws).length : Nat) : Int) ≤ w - 1
  · rw [if_pos (Or.inl (by rw [List.length_cons]; omega)), decide_eq_true hf]
    have := lay_flat w (V ws ++ [enIt]) ⟨[120], 1, ⟨true, true, (off : Nat)⟩, [s0.g]⟩ 1 (inner_V ws) (by rw [sum_Ve, sum_V]; exact hf) (by rw [flatL_V]; show ([120] ++ flatV ws).length ≤ 65536; simp; omega) rfl (fun _ => rfl) (fun g hg => by simp at hg)
    rw [this, flatL_V]
    rfl
  · by_cases h0 : ws = []
    · subst h0
      rw [if_pos (Or.inr rfl)]
      exact lay_far w off [] ⟨[120], 1, ⟨false, true, (off : Nat)⟩, [s0.g]⟩ rfl (by show (1 : Nat) ≤ 65536; decide) |>.trans rfl |> fun e => by rw [decide_eq_false hf]; exact e
    · rw [if_neg (by rw [List.length_cons]; rintro (q | q); · omega
                     · exact h0 q), decide_eq_false hf]
      rw [lay_far w off ws ⟨[120], 1, ⟨false, true, (off : Nat)⟩, [s0.g]⟩ rfl (by show ([120] ++ far off ws).length ≤ 65536; simp; omega)]
      rfl
end Go.Proofs.PlatenLayout
