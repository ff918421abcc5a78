/- A text made of nodes: it is JSON, and how many bytes and breaks its tokens are. -/
import Derived.Test.YtfakfgmengcndaaKB
namespace Go.Proofs.PlatenTree
set_option linter.unusedVariables false

structure Nd where
  kind : Nat
  n : Nat
def nameB (n : Nat) : List Nat :=
  match n % 6 with
  | 0 => [49]
  | 1 => [34, 97, 32, 98, 34]
  | 2 => [45, 49, 50, 46, 53, 101, 51]
  | 3 => [110, 117, 108, 108]
  | 4 => [34, 92, 34, 195, 169, 34]
  | _ => [116, 114, 117, 101]
def hd (l : List Nd) : Nd := match l with | [] => ⟨0, 0⟩ | x :: _ => x
def gap (s : Bool) (x : Nd) : List Nat :=
  (if 12 ≤ x.n % 16 then [10, 32] else []) ++ ((if s = true ∧ x.kind % 8 = 7 then [44, 64] else []) ++ (if s = true ∧ x.kind % 8 = 6 then [39, 32] else []))
def parts (s named : Bool) (one : List Nd → List Nat × List Nd) : Nat → Bool → List Nd → List Nat × List Nd
  | 0, _, l => ([], l)
  | m + 1, first, l =>
    ((if first then [] else if s then [32] else [44]) ++ ((if named then [34, 107, 34, 32, 58] else []) ++ ((one l).1 ++ (parts s named one m false (one l).2).1)), (parts s named one m false (one l).2).2)
def opn (s : Bool) (x : Nd) : Nat := if s then 40 else if x.kind % 4 = 1 then 123 else 91
def cls (s : Bool) (x : Nd) : Nat := if s then 41 else if x.kind % 4 = 1 then 125 else 93
def nmd (s : Bool) (x : Nd) : Bool := !s && decide (x.kind % 4 = 1)
def mk (s : Bool) : Nat → List Nd → List Nat × List Nd
  | 0, l => (gap s (hd l) ++ nameB (hd l).n, l.tail)
  | f + 1, l =>
    if (hd l).kind % 4 = 0 then (gap s (hd l) ++ nameB (hd l).n, l.tail)
    else (gap s (hd l) ++ (opn s (hd l) :: ((parts s (nmd s (hd l)) (mk s f) ((hd l).n % 4) true l.tail).1 ++ [cls s (hd l)])), (parts s (nmd s (hd l)) (mk s f) ((hd l).n % 4) true l.tail).2)
def bsum (P : List Pc) : Nat := (P.map fun t => if t.1 = 1 ∨ t.1 = 2 ∨ t.1 = 3 then 1 else 0).sum
theorem bsum_app (a b : List Pc) : bsum (a ++ b) = bsum a + bsum b := by simp [bsum]
theorem totb_app (a b : List Pc) : totb (a ++ b) = totb a + totb b := by simp [totb]
/-- A value has ended. -/
def Aft (u : St JM) (S : List Nat) (P : List Pc) : Prop := ∃ L k, Like JM u ⟨5, S, false, L, k⟩ P
theorem run_gap {x : Nd} {c : Jc} {P : List Pc} (hm : jmid c.st = false) (rest : List Nat) : run JM (gap false x ++ rest) (c, [], P) = run JM rest (c, [], P) := by
  obtain ⟨u', h1, h2, h3, h4⟩ := blanks_run jm_ok (bs := gap false x) (c := c) (P := P) (by
    intro b hb
    unfold gap at hb
    split at hb <;> simp at hb
    rcases hb with rfl | rfl <;> rfl) hm (c, [], P) (Or.inl rfl)
  rw [run_app, h1]
  by_cases e : gap false x = []
  · rw [h4 e]
  · rw [h3 e]
set_option maxHeartbeats 8000000 in
theorem name_run (n st : Nat) (S L : List Nat) (k : Nat) (P : List Pc) (hs : st = 0 ∨ st = 1) : ∃ u', run JM (nameB n) (⟨st, S, false, L, k⟩, [], P) = some u' ∧ Aft u' S (P ++ [(5, nameB n)]) := by
  have h6 := Nat.mod_lt n (show 0 < 6 by decide)
  unfold nameB
  rcases hs with rfl | rfl
  · match h : n % 6, h6 with
    | 0, _ => exact ⟨_, rfl, L, k, Or.inr ⟨_, _, _, _, rfl, rfl, rfl⟩⟩
    | 1, _ => exact ⟨_, rfl, L, k, Or.inl rfl⟩
    | 2, _ => exact ⟨_, rfl, L, k, Or.inr ⟨_, _, _, _, rfl, rfl, rfl⟩⟩
    | 3, _ => exact ⟨_, rfl, [], k, Or.inl rfl⟩
    | 4, _ => exact ⟨_, rfl, L, k, Or.inl rfl⟩
    | 5, _ => exact ⟨_, rfl, [], k, Or.inl rfl⟩
  · match h : n % 6, h6 with
    | 0, _ => exact ⟨_, rfl, L, k, Or.inr ⟨_, _, _, _, rfl, rfl, rfl⟩⟩
    | 1, _ => exact ⟨_, rfl, L, k, Or.inl rfl⟩
    | 2, _ => exact ⟨_, rfl, L, k, Or.inr ⟨_, _, _, _, rfl, rfl, rfl⟩⟩
    | 3, _ => exact ⟨_, rfl, [], k, Or.inl rfl⟩
    | 4, _ => exact ⟨_, rfl, L, k, Or.inl rfl⟩
    | 5, _ => exact ⟨_, rfl, [], k, Or.inl rfl⟩
theorem name_len (n : Nat) : (nameB n).length ≤ 7 := by
  unfold nameB
  split <;> decide
/-- A sign of one byte behind a value. -/
theorem one_run {u : St JM} {S : List Nat} {P : List Pc} {b k : Nat} {c' : List Nat → Nat → Jc} (h : Aft u S P) (hf : ∀ L n, jf0 ⟨5, S, false, L, n⟩ b = .whole k (c' L n)) (rest : List Nat) :
    ∃ L n, run JM (b :: rest) u = run JM rest (c' L n, [], P ++ [(k, [b])]) := by
  obtain ⟨L, n, hl⟩ := h
  refine ⟨L, n, ?_⟩
  have e : fd JM ((⟨5, S, false, L, n⟩, [], P) : St JM) b = some (c' L n, [], P ++ [(k, [b])]) := by
    rw [fd_out (M := JM) (s := ((⟨5, S, false, L, n⟩, [], P) : St JM)) rfl]
    show app JM (jf0 ⟨5, S, false, L, n⟩ b) _ b = _
    rw [hf L n]
    rfl
  have := gap_fd jm_ok (u := u) (c := (⟨5, S, false, L, n⟩ : Jc)) (P := P) (b := b) (bs := []) (fun b hb => by cases hb) rfl hl e (by
    show jf0 ⟨5, S, false, L, n⟩ b ≠ _
    rw [hf L n]
    intro q; cases q) (fun _ _ q => by cases q) rest
  exact this
def Good (l l2 : List Nd) (Q : List Pc) : Prop := ∃ lam, lam + l2.length ≤ l.length ∧ totb Q + 8 * l2.length ≤ 8 * l.length + 14 * lam + 1 ∧ bsum Q ≤ 4 * lam
/-- Children's: so many calls. -/
def GoodN (m : Nat) (l l2 : List Nd) (Q : List Pc) : Prop := ∃ lam, lam + l2.length ≤ l.length ∧ totb Q + 8 * l2.length ≤ 8 * l.length + 14 * lam + 7 * m ∧ bsum Q ≤ 4 * lam + m
theorem parts_run (f : Nat) (named : Bool) (S0 : List Nat)
    (ih : ∀ l st L k P, st = 0 ∨ st = 1 → ∃ u' Q, run JM (mk false f l).1 (⟨st, S0, false, L, k⟩, [], P) = some u' ∧ Aft u' S0 (P ++ Q) ∧ Good l (mk false f l).2 Q)
    (hx : (named = true → ∃ T, S0 = 123 :: T) ∧ (named = false → ∃ T, S0 = 91 :: T)) : ∀ (m : Nat) (l : List Nd) (u : St JM) (P : List Pc), Aft u S0 P →
    ∃ u' Q, run JM (parts false named (mk false f) m false l).1 u = some u' ∧ Aft u' S0 (P ++ Q) ∧ GoodN m l (parts false named (mk false f) m false l).2 Q
  | 0, l, u, P, h => ⟨u, [], rfl, by rw [List.append_nil]; exact h, 0, by show 0 + l.length ≤ _; omega, by show 0 + 8 * l.length ≤ _; omega, Nat.zero_le _⟩
  | m + 1, l, u, P, h => by
    have key : ∃ st L k N, (st = 0 ∨ st = 1) ∧ totb N ≤ 6 ∧ bsum N ≤ 1 ∧ ∀ rest, run JM ([44] ++ ((if named then [34, 107, 34, 32, 58] else []) ++ rest)) u = run JM rest (⟨st, S0, false, L, k⟩, [], P ++ N) := by
      cases named with
      | false =>
        obtain ⟨T, hT⟩ := hx.2 rfl
        obtain ⟨L, k, e⟩ := one_run (b := 44) (k := 3) (c' := fun L n => ⟨0, S0, false, L, n⟩) h (fun L n => by rw [hT]; rfl) []
        obtain ⟨L0, k0, hl⟩ := h
        refine ⟨0, L0, k0, [(3, [44])], Or.inl rfl, by decide, by decide, fun rest => ?_⟩
        have := gap_fd jm_ok (u := u) (c := (⟨5, S0, false, L0, k0⟩ : Jc)) (P := P) (b := 44) (bs := []) (s' := ((⟨0, S0, false, L0, k0⟩, [], P ++ [(3, [44])]) : St JM)) (fun b hb => by cases hb) rfl hl (by rw [hT]; rfl) (by
          show jf0 ⟨5, S0, false, L0, k0⟩ 44 ≠ _
          rw [hT]
          intro q; cases q) (fun _ _ q => by cases q) rest
        exact this
      | true =>
        obtain ⟨T, hT⟩ := hx.1 rfl
        obtain ⟨L0, k0, hl⟩ := h
        refine ⟨0, L0, k0, [(3, [44]), (5, [34, 107, 34]), (4, [58])], Or.inl rfl, by decide, by decide, fun rest => ?_⟩
        have := gap_fd jm_ok (u := u) (c := (⟨5, S0, false, L0, k0⟩ : Jc)) (P := P) (b := 44) (bs := []) (s' := ((⟨3, S0, false, L0, k0⟩, [], P ++ [(3, [44])]) : St JM)) (fun b hb => by cases hb) rfl hl (by rw [hT]; rfl) (by
          show jf0 ⟨5, S0, false, L0, k0⟩ 44 ≠ _
          rw [hT]
          intro q; cases q) (fun _ _ q => by cases q) ([34, 107, 34, 32, 58] ++ rest)
        show run JM ([] ++ 44 :: ([34, 107, 34, 32, 58] ++ rest)) u = _
        rw [this, run_app]
        have e5 : run JM [34, 107, 34, 32, 58] ((⟨3, S0, false, L0, k0⟩, [], P ++ [(3, [44])]) : St JM) = some (⟨0, S0, false, L0, k0⟩, [], ((P ++ [(3, [44])]) ++ [(5, [34, 107, 34])]) ++ [(4, [58])]) := rfl
        rw [e5]
        simp [List.append_assoc]
    obtain ⟨st, L, k, N, hst, hN1, hN2, hrun⟩ := key
    obtain ⟨u1, Q1, r1, a1, lam1, g1, g2, g3⟩ := ih l st L k (P ++ N) hst
    obtain ⟨u2, Q2, r2, a2, lam2, g4, g5, g6⟩ := parts_run f named S0 ih hx m (mk false f l).2 u1 _ a1
    refine ⟨u2, N ++ (Q1 ++ Q2), ?_, by simpa [List.append_assoc] using a2, lam1 + lam2, ?_, ?_, ?_⟩
    · show run JM ([44] ++ ((if named then [34, 107, 34, 32, 58] else []) ++ ((mk false f l).1 ++ (parts false named (mk false f) m false (mk false f l).2).1))) u = _
      rw [hrun, run_app, r1]
      exact r2
    · show lam1 + lam2 + (parts false named (mk false f) m false (mk false f l).2).2.length ≤ l.length
      omega
    · show totb (N ++ (Q1 ++ Q2)) + 8 * (parts false named (mk false f) m false (mk false f l).2).2.length ≤ _
      rw [totb_app, totb_app]
      omega
    · rw [bsum_app, bsum_app]
      omega
end Go.Proofs.PlatenTree
