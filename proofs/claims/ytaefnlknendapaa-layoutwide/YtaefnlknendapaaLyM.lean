/- Layout as plain mathematics: how much an item takes, what is printed; what the laws of layout say of that. -/
namespace Go.Proofs.PlatenLayout
set_option linter.unusedVariables false

/-- An item: its kind (1 a text, 2 a break, 3 a beginning, 4 an end), its bytes and how many characters they are, its blanks, how far in, from the column, whole. -/
structure It where
  kind : Nat
  tx : List Nat
  ch : Nat
  n : Int
  off : Int
  col : Bool
  whole : Bool
def It.own (x : It) : Nat := if x.kind = 1 then x.ch else if x.kind = 2 then x.n.toNat else 0
/-- What follows, up to a break that is in no group that begins in it. -/
def brk : List It → Nat → Nat
  | [], _ => 0
  | x :: r, d =>
    if x.kind = 3 then brk r (d + 1)
    else if x.kind = 4 then brk r (d - 1)
    else if x.kind = 2 ∧ d = 0 then 0
    else x.own + brk r d
/-- What is in a group, and what follows up to such a break. -/
def grp : List It → Nat → Nat
  | [], _ => 0
  | x :: r, d =>
    if x.kind = 3 then grp r (d + 1)
    else if x.kind = 4 then (if d = 0 then brk r 0 else grp r (d - 1))
    else x.own + grp r d
def size : List It → Nat
  | [] => 0
  | x :: r => if x.kind = 1 then x.own else if x.kind = 2 then x.own + brk r 0 else if x.kind = 3 then grp r 0 else 0
def sum : List It → Nat
  | [] => 0
  | x :: r => x.own + sum r
theorem brk_le : ∀ (l : List It) (d : Nat), brk l d ≤ sum l
  | [], d => Nat.le_refl _
  | x :: r, d => by
    have h1 := brk_le r (d + 1)
    have h2 := brk_le r (d - 1)
    have h3 := brk_le r d
    unfold brk sum
    split
    · omega
    · split
      · omega
      · split <;> omega
theorem grp_le : ∀ (l : List It) (d : Nat), grp l d ≤ sum l
  | [], d => Nat.le_refl _
  | x :: r, d => by
    have h1 := grp_le r (d + 1)
    have h2 := grp_le r (d - 1)
    have h3 := grp_le r d
    have h4 := brk_le r 0
    unfold grp sum
    split
    · omega
    · split
      · split <;> omega
      · omega
theorem size_le (l : List It) : size l ≤ sum l := by
  cases l with
  | nil => exact Nat.le_refl _
  | cons x r =>
    have h1 := grp_le r 0
    have h2 := brk_le r 0
    simp only [size, sum]
    split
    · omega
    · split
      · omega
      · split <;> omega

/-- A group: on one line; all its breaks end lines; how far it stands in. -/
structure Gr where
  flat : Bool
  whole : Bool
  ind : Int
def most : Nat := 65536
/-- An item printed: p and the column, the innermost group and those around it. -/
structure Ly where
  p : List Nat
  col : Int
  g : Gr
  gs : List Gr
def sp (n : Nat) : List Nat := List.replicate n 32
/-- The next state, were there no bound. -/
def stepL (w : Int) (s : Ly) (x : It) (r : List It) : Ly :=
  if x.kind = 1 then { s with p := s.p ++ x.tx, col := s.col + (size (x :: r) : Nat) }
  else if x.kind = 3 then { s with g := ⟨decide (((size (x :: r) : Nat) : Int) ≤ w - s.col), x.whole, (if x.col then s.col else s.g.ind) + x.off⟩, gs := s.g :: s.gs }
  else if x.kind = 4 then (match s.gs with | [] => s | h :: t => { s with g := h, gs := t })
  else if x.kind = 2 then
    (if s.g.flat = true ∨ (s.g.whole = false ∧ ((size (x :: r) : Nat) : Int) ≤ w - s.col) then { s with p := s.p ++ sp x.n.toNat, col := s.col + (x.n.toNat : Nat) }
     else { s with p := s.p ++ [10] ++ sp (s.g.ind + x.off).toNat, col := ((s.g.ind + x.off).toNat : Nat) })
  else s
/-- Items printed; none: it is too much. -/
def lay (w : Int) : List It → Ly → Option (List Nat)
  | [], s => some s.p
  | x :: r, s => if most < (stepL w s x r).p.length then none else lay w r (stepL w s x r)
def s0 : Ly := ⟨[], 0, ⟨false, false, 0⟩, []⟩

/-- What comes out is never shorter than what there was. -/
theorem stepL_pre (w : Int) (s : Ly) (x : It) (r : List It) : ∃ q, (stepL w s x r).p = s.p ++ q := by
  unfold stepL
  split
  · exact ⟨_, rfl⟩
  · split
    · exact ⟨[], (List.append_nil _).symm⟩
    · split
      · split <;> exact ⟨[], (List.append_nil _).symm⟩
      · split
        · split
          · exact ⟨_, rfl⟩
          · exact ⟨_, List.append_assoc _ _ _⟩
        · exact ⟨[], (List.append_nil _).symm⟩
theorem lay_le (w : Int) : ∀ (l : List It) (s : Ly) (q : List Nat), s.p.length ≤ most → lay w l s = some q → q.length ≤ most
  | [], s, q, h, e => by
    unfold lay at e
    injection e with e
    rw [← e]; exact h
  | x :: r, s, q, h, e => by
    unfold lay at e
    split at e
    · cases e
    · exact lay_le w r _ q (by omega) e

/-! The texts come out, in order. -/
def plain (l : List Nat) : List Nat := l.filter fun c => decide (c ≠ 32) && decide (c ≠ 10)
theorem plain_app (a b : List Nat) : plain (a ++ b) = plain a ++ plain b := by simp [plain]
theorem plain_sp (n : Nat) : plain (sp n) = [] := by
  induction n with
  | zero => rfl
  | succ n ih => unfold sp; rw [List.replicate_succ]; unfold plain; rw [List.filter_cons]; exact ih
def texts : List It → List Nat
  | [] => []
  | x :: r => (if x.kind = 1 then x.tx else []) ++ texts r
theorem stepL_plain (w : Int) (s : Ly) (x : It) (r : List It) (hx : x.kind = 1 → plain x.tx = x.tx) : plain (stepL w s x r).p = plain s.p ++ (if x.kind = 1 then x.tx else []) := by
  unfold stepL
  split
  · rename_i h; rw [plain_app, hx h]
  · rw [List.append_nil]
    split
    · rfl
    · split
      · split <;> rfl
      · split
        · split
          · rw [plain_app, plain_sp, List.append_nil]
          · rw [plain_app, plain_app, plain_sp, List.append_nil]
            show plain s.p ++ [] = plain s.p
            rw [List.append_nil]
        · rfl
theorem lay_texts (w : Int) : ∀ (l : List It) (s : Ly) (q : List Nat), (∀ x ∈ l, x.kind = 1 → plain x.tx = x.tx) → lay w l s = some q → plain q = plain s.p ++ texts l
  | [], s, q, h, e => by
    unfold lay at e
    injection e with e
    rw [← e]; unfold texts; rw [List.append_nil]
  | x :: r, s, q, h, e => by
    unfold lay at e
    split at e
    · cases e
    · rw [lay_texts w r _ q (fun y hy => h y (by simp [hy])) e, stepL_plain w s x r (h x (by simp)), List.append_assoc]
      rfl

/-! What fits on one line is on one line. -/
def flatL : List It → List Nat
  | [] => []
  | x :: r => (if x.kind = 1 then x.tx else if x.kind = 2 then sp x.n.toNat else []) ++ flatL r
/-- No break stands outside all groups, where d groups are open. -/
def inner : List It → Nat → Prop
  | [], _ => True
  | x :: r, d => if x.kind = 3 then inner r (d + 1) else if x.kind = 4 then inner r (d - 1) else if x.kind = 2 then 0 < d ∧ inner r d else inner r d
theorem lay_flat (w : Int) : ∀ (l : List It) (s : Ly) (d : Nat), inner l d → ((sum l : Nat) : Int) ≤ w - s.col → (s.p ++ flatL l).length ≤ most → s.gs.length = d → (0 < d → s.g.flat = true) → (∀ g ∈ s.gs.dropLast, g.flat = true) →
    lay w l s = some (s.p ++ flatL l)
  | [], s, d, hi, hw, hm, hd, hg, hgs => by simp [lay, flatL]
  | x :: r, s, d, hi, hw, hm, hd, hg, hgs => by
    have hsz := size_le (x :: r)
    have hsum : sum (x :: r) = x.own + sum r := rfl
    have hfit : ((size (x :: r) : Nat) : Int) ≤ w - s.col := by omega
    have key : ∀ s', stepL w s x r = s' → (∃ q, s'.p = s.p ++ q ∧ flatL (x :: r) = q ++ flatL r) → (∀ (_ : s'.p ++ flatL r = s.p ++ flatL (x :: r)), lay w r s' = some (s'.p ++ flatL r)) → lay w (x :: r) s = some (s.p ++ flatL (x :: r)) := by
      intro s' e ⟨q, e1, e2⟩ e3
      have e4 : s'.p ++ flatL r = s.p ++ flatL (x :: r) := by rw [e1, e2, List.append_assoc]
      unfold lay
      rw [e, e3 e4, e4]
      rw [if_neg]
      rw [← e4, List.length_append] at hm
      omega
    unfold inner at hi
    by_cases k1 : x.kind = 1
    · have e : stepL w s x r = { s with p := s.p ++ x.tx, col := s.col + (x.ch : Nat) } := by simp [stepL, k1, size, It.own]
      rw [if_neg (by omega), if_neg (by omega), if_neg (by omega)] at hi
      refine key _ e ⟨x.tx, rfl, by simp [flatL, k1]⟩ fun e4 => lay_flat w r _ d hi ?_ (by rw [e4]; exact hm) hd hg hgs
      have : x.own = x.ch := by simp [It.own, k1]
      show ((sum r : Nat) : Int) ≤ w - (s.col + (x.ch : Nat))
      omega
    · by_cases k3 : x.kind = 3
      · have e : stepL w s x r = { s with g := ⟨true, x.whole, (if x.col then s.col else s.g.ind) + x.off⟩, gs := s.g :: s.gs } := by
          simp only [stepL, if_neg k1, if_pos k3, decide_eq_true hfit]
        rw [if_pos k3] at hi
        refine key _ e ⟨[], (List.append_nil _).symm, by simp [flatL, k3]⟩ fun e4 => lay_flat w r _ (d + 1) hi ?_ (by rw [e4]; exact hm) (by simp [hd]) (fun _ => rfl) ?_
        · show ((sum r : Nat) : Int) ≤ w - s.col
          omega
        · intro g hgm
          show g.flat = true
          cases hgs2 : s.gs with
          | nil => rw [hgs2] at hgm; simp at hgm
          | cons a t =>
            rw [hgs2] at hgm hgs hd
            simp only [List.dropLast_cons_cons, List.mem_cons] at hgm
            rcases hgm with rfl | hgm
            · exact hg (by rw [← hd]; simp)
            · exact hgs g hgm
      · by_cases k4 : x.kind = 4
        · rw [if_neg k3, if_pos k4] at hi
          have ho : x.own = 0 := by simp [It.own, k4]
          cases hgs2 : s.gs with
          | nil =>
            have e : stepL w s x r = s := by simp [stepL, k4, hgs2]
            rw [hgs2] at hd
            simp at hd
            subst hd
            exact key _ e ⟨[], (List.append_nil _).symm, by simp [flatL, k4]⟩ fun e4 => lay_flat w r _ 0 hi (by omega) (by rw [e4]; exact hm) (by rw [hgs2]; rfl) (fun h => absurd h (Nat.lt_irrefl _)) hgs
          | cons a t =>
            have e : stepL w s x r = { s with g := a, gs := t } := by simp [stepL, k4, hgs2]
            rw [hgs2] at hd hgs
            simp at hd
            subst hd
            refine key _ e ⟨[], (List.append_nil _).symm, by simp [flatL, k4]⟩ fun e4 => lay_flat w r _ t.length hi ?_ (by rw [e4]; exact hm) rfl (fun h => ?_) (fun g hg' => ?_)
            · show ((sum r : Nat) : Int) ≤ w - s.col
              omega
            · cases t with
              | nil => exact absurd h (Nat.lt_irrefl _)
              | cons b u => exact hgs a (by simp)
            · cases t with
              | nil => simp at hg'
              | cons b u => exact hgs g (by rw [List.dropLast_cons_cons]; exact List.mem_cons_of_mem _ hg')
        · by_cases k2 : x.kind = 2
          · rw [if_neg k3, if_neg k4, if_pos k2] at hi
            have hf := hg hi.1
            have e : stepL w s x r = { s with p := s.p ++ sp x.n.toNat, col := s.col + (x.n.toNat : Nat) } := by simp only [stepL, if_neg k1, if_neg k3, if_neg k4, if_pos k2, if_pos (Or.inl hf)]
            refine key _ e ⟨sp x.n.toNat, rfl, by simp [flatL, k2]⟩ fun e4 => lay_flat w r _ d hi.2 ?_ (by rw [e4]; exact hm) hd hg hgs
            have : x.own = x.n.toNat := by simp [It.own, k2]
            show ((sum r : Nat) : Int) ≤ w - (s.col + (x.n.toNat : Nat))
            omega
          · rw [if_neg k3, if_neg k4, if_neg k2] at hi
            have e : stepL w s x r = s := by simp [stepL, k1, k2, k3, k4]
            have ho : x.own = 0 := by simp [It.own, k1, k2]
            exact key _ e ⟨[], (List.append_nil _).symm, by simp [flatL, k1, k2]⟩ fun e4 => lay_flat w r _ d hi (by omega) (by rw [e4]; exact hm) hd hg hgs
end Go.Proofs.PlatenLayout
