/- Two texts with a line end between, laid by three appends: the row of all of them; how many runs and pieces it has. -/
import Derived.Test.YtglgcbocpdenhaaDoorWdI
import Derived.Laws.AppendOwnNone
namespace Go.Proofs.PlatenWords
open Go.RowKit Go.Shelf Go.Proofs.PlatenGlyph
set_option linter.unusedVariables false

theorem info5 : (Tryd.prog.info? 5).map (fun i => (i.zero, i.size, i.bytes)) = some (some (.int .u8 0), 1, 1) := by kernel_rfl
def bytesV (l : List Nat) : List Value := l.map fun c => Value.int .u8 (c : Nat)
theorem bytesV_app (l m : List Nat) : bytesV (l ++ m) = bytesV l ++ bytesV m := by simp [bytesV]
theorem bytesV_len (l : List Nat) : (bytesV l).length = l.length := by simp [bytesV]
theorem bytesV_one (l : List Nat) : ∀ u ∈ bytesV l, u.oneCell' = true := by
  intro u hu
  obtain ⟨c, _, rfl⟩ := List.mem_map.1 hu
  rfl
def listOf (f : Nat → Nat) (n : Nat) : List Nat := (List.range n).map f
theorem listOf_len (f : Nat → Nat) (n : Nat) : (listOf f n).length = n := by simp [listOf]
theorem listOf_getD {f : Nat → Nat} {n j : Nat} (h : j < n) : (listOf f n).getD j 0 = f j := by
  rw [listOf, List.getD_eq_getElem?_getD, List.getElem?_map, List.getElem?_range h]; rfl
/-- A slice that may be appended: the nil one, or one with an address. -/
def Src (w : World) (v : Value) (n : Nat) (f : Nat → Nat) : Prop :=
  (v = .slice none 0 0 ∧ n = 0) ∨ ∃ ad cap, v = .slice (some ad) n cap ∧ ∀ j u, (bytesV (listOf f n))[j]? = some u → w.cell? (ad.add j) = some u
theorem src_row {w : World} {b off n cap : Nat} {f : Nat → Nat} (hc : Cells w b off n f) : Src w (.slice (some ⟨b, off, none⟩) n cap) n f := by
  refine Or.inr ⟨_, _, rfl, fun j u hj => ?_⟩
  by_cases hjn : j < n
  · rw [bytesV, listOf, List.map_map, List.getElem?_map, List.getElem?_range hjn] at hj
    have := hc j hjn
    simp at hj
    subst hj
    by_cases h0 : j = 0
    · subst h0; simpa [Addr.add] using this
    · simpa [Addr.add, h0] using this
  · rw [List.getElem?_eq_none (by simp [bytesV, listOf]; omega)] at hj; cases hj
theorem src_empty {w : World} (ad : Addr) (cap : Nat) (f : Nat → Nat) : Src w (.slice (some ad) 0 cap) 0 f :=
  Or.inr ⟨_, _, rfl, fun j u hj => by simp [bytesV, listOf] at hj⟩
theorem Src.below {w w' : World} {v : Value} {n : Nat} {f : Nat → Nat} (h : Src w v n f) (hb : Below w.heap.size w w') : Src w' v n f := by
  rcases h with h | ⟨ad, cap, hv, hc⟩
  · exact Or.inl h
  · refine Or.inr ⟨ad, cap, hv, fun j u hj => ?_⟩
    have := hc j u hj
    rw [hb.cell (p := ad.add j) (World.block_lt_of_cell? _ _ this)]
    exact this
theorem grown_refl (w : World) (row : Option Nat) : w.grownBy w row := ⟨rfl, rfl, rfl, Nat.le_refl _, fun _ _ _ => rfl⟩
/-- append(row, s...), where the row is the call's own and s is nil or not. -/
theorem append_src {ops : Array Oper} {rest : List Oper} {o : Oper} {a : Act} {Q : Exit → Act → World → Prop} {w : World} (hgd : o.guard = none) (s x : Operand)
    (ho : o.op = .call { callee := .builtin .append, args := #[s, x], argTypes := #[25, 25] }) (base : Nat) (v : Value) (n : Nat) (xs : List Value) (hs : a.eval s = v) (hown : w.ownsRow base 5 1 v n xs)
    (sv : Value) (m : Nat) (g : Nat → Nat) (hx : a.eval x = sv) (hsrc : Src w sv m g) (hn : n ≤ 100000) (hm : m ≤ 100000) (hbase : base ≤ w.heap.size)
    (h : ∀ v' w', w'.ownsRow base 5 1 v' (n + m) (xs ++ bytesV (listOf g m)) → w.grownBy w' v.ownBlock → wpList Tryd.prog ops Q rest (a.put o.dst v') w') : wpList Tryd.prog ops Q (o :: rest) a w := by
  obtain ⟨i0, hi, hz0, hz1, hz2⟩ := info_parts info5
  rcases hsrc with ⟨rfl, rfl⟩ | ⟨ad, cap, rfl, hc⟩
  · refine wpList_append_own_none hgd s x 25 ho base 5 i0 1 Tryd.underlying25 hi v n xs hs hown hx (h v w ?_ (grown_refl _ _))
    rw [show listOf g 0 = [] from rfl, show bytesV [] = [] from rfl, List.append_nil]; exact hown
  · exact wpList_append_own w hgd s x 25 ho base 5 i0 (.int .u8 0) 1 1 Tryd.underlying25 hi hz0 hz1 hz2 rfl (by decide) v n xs hs hown ad m cap (bytesV (listOf g m)) hx (by rw [bytesV_len, listOf_len, Nat.mul_one]) hc (bytesV_one _) (by unfold maxLen; omega) (by omega) hbase fun v' w' h1 h2 _ => h v' w' h1 h2
theorem below_append' {B : Nat} {e : TypeId} {w wr w1 : World} {v : Value} {n : Nat} {xs : List Value} (hB : B ≤ wr.heap.size) (hown : wr.ownsRow B e 1 v n xs) (hnx : Below B w wr) (hg : wr.grownBy w1 v.ownBlock) : Below B w w1 :=
  hnx.grown hg hB (fun j hj => (hown.lt j hj).1)
theorem two_lt {f g : Nat → Nat} (hf : ∀ j, f j < 256) (hg : ∀ j, g j < 256) (n j : Nat) : two f g n j < 256 := by
  unfold two
  split
  · exact hf _
  · split
    · decide
    · exact hg _
theorem row_own {w : World} {base : Nat} {v : Value} {N : Nat} {xs : List Value} {F : Nat → Nat} (h : w.ownsRow base 5 1 v N xs) (hx : ∀ j, j < N → xs[j]? = some (.int .u8 (F j : Nat))) : Row w v N F := by
  have hcl := fun g => h.cells (g := g)
  rcases h.2 with ⟨rfl, h0⟩ | ⟨g, cap, cur, rfl, hbg, hg, hnc, hcm, hcs, htake⟩
  · exact ⟨none, 0, by rw [h0], fun hl => by omega⟩
  · refine ⟨_, cap, rfl, fun _ => ⟨g, 0, rfl, hnc, fun i hi => ?_⟩⟩
    have g1 := hcl g rfl _ _ (hx i hi)
    have ea : ∀ j, (⟨g, 0, none⟩ : Addr).add j = ⟨g, j, none⟩ := fun j => by unfold Addr.add; split <;> simp_all
    rw [ea] at g1
    rw [Nat.zero_add]; exact g1
theorem two_row (f g : Nat → Nat) (n m : Nat) : ∀ j, j < n + 1 + m → (([] ++ bytesV (listOf f n)) ++ bytesV (listOf (fun _ => 10) 1) ++ bytesV (listOf g m))[j]? = some (.int .u8 (two f g n j : Nat)) := by
  intro j hj
  have l1 := listOf_len f n
  have key : ((listOf f n ++ [10]) ++ listOf g m)[j]? = some (two f g n j) := by
    by_cases c : j < n
    · rw [two_l c, List.getElem?_append_left (by simp [l1]; omega), List.getElem?_append_left (by omega)]
      rw [listOf, List.getElem?_map, List.getElem?_range c]; rfl
    · by_cases d : j = n
      · subst d
        rw [two_m, List.getElem?_append_left (by simp [l1]), List.getElem?_append_right (by omega), l1]
        simp
      · obtain ⟨i, rfl⟩ : ∃ i, j = n + 1 + i := ⟨j - n - 1, by omega⟩
        have e : n + 1 + i - (listOf f n ++ [10] : List Nat).length = i := by simp [l1]
        rw [two_r, List.getElem?_append_right (by simp [l1]), e]
        rw [listOf, List.getElem?_map, List.getElem?_range (show i < m by omega)]; rfl
  rw [List.nil_append, show listOf (fun _ => 10) 1 = [10] from rfl, ← bytesV_app, ← bytesV_app, bytesV, List.getElem?_map, key]
  rfl
theorem cb_le (f : Nat → Nat) : ∀ k, cb f k ≤ k
  | 0 => Nat.le_refl _
  | k + 1 => by have := cb_le f k; unfold cb; split <;> omega
def dl (f : Nat → Nat) (n : Nat) : Nat := if 0 < n ∧ f (n - 1) = 10 then 1 else 0
def dr (g : Nat → Nat) (m : Nat) : Nat := if 0 < m ∧ g 0 = 10 then 1 else 0
theorem cb_two (f g : Nat → Nat) (n m : Nat) : cb (two f g n) (n + 1 + m) + dl f n + dr g m = cb f n + cb g m + 1 := by
  have hm := cb_m f g n
  have hd : (if n = 0 ∨ f (n - 1) ≠ 10 then 1 else 0) + dl f n = 1 := by
    unfold dl
    by_cases c : n = 0 ∨ f (n - 1) ≠ 10
    · rw [if_pos c, if_neg (by omega)]
    · rw [if_neg c, if_pos (by omega)]
  cases m with
  | zero =>
    have : dr g 0 = 0 := by unfold dr; rw [if_neg (by omega)]
    have h0 : cb g 0 = 0 := rfl
    rw [Nat.add_zero, this, h0, hm]; omega
  | succ m =>
    have hr := cb_r f g n m
    have he : (if g 0 ≠ 10 then 1 else 0) + dr g (m + 1) = 1 := by
      unfold dr
      by_cases c : g 0 = 10
      · rw [if_neg (by omega), if_pos ⟨by omega, c⟩]
      · rw [if_pos c, if_neg (by omega)]
    omega
/-- The last byte, and whether it is a line end; the first one likewise. -/
theorem last_of {w : World} {a : Option Addr} {n cap : Nat} {f : Nat → Nat} (h : Row w (.slice a n cap) n f) :
    (¬ ((n : Int) > 0) ∧ dl f n = 0) ∨ ∃ b off k y, a = some ⟨b, off, none⟩ ∧ (n : Int) > 0 ∧ (n : Int) - 1 = (k : Nat) ∧ ((k : Nat) : Int) < (n : Int) ∧ w.cell? ⟨b, off + k, none⟩ = some (.int .u8 (y : Nat)) ∧ ((y = 10 ∧ dl f n = 1) ∨ (((y : Int) == 10) = false ∧ dl f n = 0)) := by
  obtain ⟨a', cap', hv, h⟩ := h
  injection hv with h1 h2 h3
  subst h1
  by_cases c : n = 0
  · exact Or.inl ⟨by omega, by unfold dl; rw [if_neg (by omega)]⟩
  · obtain ⟨b, off, rfl, hc, hr⟩ := h (by omega)
    refine Or.inr ⟨b, off, n - 1, f (n - 1), rfl, by omega, by omega, by omega, hr _ (by omega), ?_⟩
    by_cases d : f (n - 1) = 10
    · exact Or.inl ⟨d, by unfold dl; rw [if_pos ⟨by omega, d⟩]⟩
    · exact Or.inr ⟨by simp; omega, by unfold dl; rw [if_neg (by omega)]⟩
theorem first_of {w : World} {a : Option Addr} {n cap : Nat} {f : Nat → Nat} (h : Row w (.slice a n cap) n f) :
    (¬ ((n : Int) > 0) ∧ dr f n = 0) ∨ ∃ b off y, a = some ⟨b, off, none⟩ ∧ (n : Int) > 0 ∧ w.cell? ⟨b, off, none⟩ = some (.int .u8 (y : Nat)) ∧ ((y = 10 ∧ dr f n = 1) ∨ (((y : Int) == 10) = false ∧ dr f n = 0)) := by
  obtain ⟨a', cap', hv, h⟩ := h
  injection hv with h1 h2 h3
  subst h1
  by_cases c : n = 0
  · exact Or.inl ⟨by omega, by unfold dr; rw [if_neg (by omega)]⟩
  · obtain ⟨b, off, rfl, hc, hr⟩ := h (by omega)
    refine Or.inr ⟨b, off, f 0, rfl, by omega, by have := hr 0 (by omega); rwa [Nat.add_zero] at this, ?_⟩
    by_cases d : f 0 = 10
    · exact Or.inl ⟨d, by unfold dr; rw [if_pos ⟨by omega, d⟩]⟩
    · exact Or.inr ⟨by simp; omega, by unfold dr; rw [if_neg (by omega)]⟩
end Go.Proofs.PlatenWords
