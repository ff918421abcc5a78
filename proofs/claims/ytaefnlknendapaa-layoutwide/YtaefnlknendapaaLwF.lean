/- What stands on one line: its bytes, its signs. -/
import Derived.Test.YtaefnlknendapaaLwE
namespace Go.Proofs.PlatenLayout
open Go Go.RowKit Go.Shelf
set_option linter.unusedVariables false
set_option maxRecDepth 100000

/-- Bytes that are so many signs: letters, blanks, and one sign of two bytes. -/
inductive Sg : List Nat → Nat → Prop
  | nil : Sg [] 0
  | one (c : Nat) (r : List Nat) (m : Nat) : c < 128 → Sg r m → Sg (c :: r) (m + 1)
  | two (r : List Nat) (m : Nat) : Sg r m → Sg (195 :: 169 :: r) (m + 1)
theorem Sg.app {a b : List Nat} {m n : Nat} (h : Sg a m) (h2 : Sg b n) : Sg (a ++ b) (m + n) := by
  induction h with
  | nil => rw [Nat.zero_add]; exact h2
  | one c r m hc _ ih => rw [show m + 1 + n = (m + n) + 1 by omega]; exact .one c _ _ hc ih
  | two r m _ ih => rw [show m + 1 + n = (m + n) + 1 by omega]; exact .two _ _ ih
theorem sg_low (a : List Nat) (h : ∀ c ∈ a, c < 128) : Sg a a.length := by
  induction a with
  | nil => exact .nil
  | cons c r ih => exact .one c r _ (h c (by simp)) (ih fun x hx => h x (by simp [hx]))
theorem drop_cons {l r : List Nat} {i c : Nat} (h : c :: r = l.drop i) : i < l.length ∧ l.getD i 0 = c ∧ r = l.drop (i + 1) := by
  have hi : i < l.length := by
    rcases Nat.lt_or_ge i l.length with q | q
    · exact q
    · rw [List.drop_of_length_le q] at h; cases h
  rw [List.drop_eq_getElem_cons hi] at h
  injection h with h1 h2
  exact ⟨hi, by rw [List.getD_eq_getElem?_getD, List.getElem?_eq_getElem hi]; exact h1.symm, h2⟩
theorem sg_cnt {l r : List Nat} {m : Nat} (h : Sg r m) : ∀ i b, r = l.drop i → r.length ≤ b → PlatenGlyph.cntFrom (fun j => l.getD j 0) l.length b i = m := by
  induction h with
  | nil =>
    intro i b e hb
    have : l.length ≤ i := by
      have := congrArg List.length e
      rw [List.length_drop] at this
      simp at this
      omega
    cases b with
    | zero => rfl
    | succ b => show (if i < l.length then _ else 0) = 0; rw [if_neg (by omega)]
  | one c r m hc hr ih =>
    intro i b e hb
    obtain ⟨hi, hg, e2⟩ := drop_cons e
    rw [List.length_cons] at hb
    obtain ⟨b, rfl⟩ : ∃ b', b = b' + 1 := ⟨b - 1, by omega⟩
    show (if i < l.length then _ else 0) = _
    rw [if_pos hi]
    have hs : PlatenGlyph.szAt (fun j => l.getD j 0) l.length i = 1 := by
      unfold PlatenGlyph.szAt
      first
        | (rw [if_pos hi]; exact PlatenGlyph.sz_low (by show l.getD i 0 < 194; omega))
        | exact PlatenGlyph.sz_low (by show l.getD i 0 < 194; omega)
    rw [hs, ih (i + 1) b e2 (by omega)]
    omega
  | two r m hr ih =>
    intro i b e hb
    obtain ⟨hi, hg, e2⟩ := drop_cons e
    obtain ⟨hi2, hg2, e3⟩ := drop_cons e2
    rw [List.length_cons, List.length_cons] at hb
    obtain ⟨b, rfl⟩ : ∃ b', b = b' + 1 := ⟨b - 1, by omega⟩
    show (if i < l.length then _ else 0) = _
    rw [if_pos hi]
    have hs : PlatenGlyph.szAt (fun j => l.getD j 0) l.length i = 2 := by
      have := PlatenGlyph.sz_of (n := l.length - i) (b0 := 195) (b1 := 169) (b2 := l.getD (i + 2) 0) (b3 := l.getD (i + 3) 0) (by decide) (by show 2 ≤ _; omega) (by decide) (fun h => absurd h (by decide)) (fun h => absurd h (by decide))
      rw [← hg, ← hg2] at this
      unfold PlatenGlyph.szAt
      first
        | (rw [if_pos hi]; exact this.trans (by rw [hg]; rfl))
        | exact this.trans (by rw [hg]; rfl)
    rw [hs, ih (i + 1 + 1) b e3 (by omega)]
    omega
theorem Sg.cnt {l : List Nat} {m : Nat} (h : Sg l m) : PlatenGlyph.cnt (fun j => l.getD j 0) l.length = m := sg_cnt h 0 l.length rfl (Nat.le_refl _)
theorem lets_low : ∀ k, k < 9 → ∀ c ∈ letters.take k, c < 128 := by decide +kernel
theorem sg_item (p : Pt) (h : (itemOf p).kind = 1) : Sg (itemOf p).tx (itemOf p).ch := by
  have h9 := Nat.mod_lt p.u (show 0 < 9 by decide)
  have hk : p.kind % 6 = 1 := h
  simp only [itemOf, if_pos hk, ptx]
  have h1 := sg_low _ (lets_low _ h9)
  rw [List.length_take, show letters.length = 26 from rfl, show min (p.u % 9) 26 = p.u % 9 by omega] at h1
  refine h1.app ?_
  by_cases e : p.like % 8 = 7
  · rw [if_pos e, if_pos (decide_eq_true e)]; exact .two [] 0 .nil
  · rw [if_neg e, if_neg (by simpa using e)]; exact .nil
theorem sg_sp (n : Nat) : Sg (sp n) n := by
  have := sg_low (sp n) (fun c hc => by rw [List.eq_of_mem_replicate hc]; decide)
  rwa [show (sp n).length = n from List.length_replicate] at this
/-- Items that come of parts, or that hold no text. -/
def Fine (x : It) : Prop := x.kind = 1 → Sg x.tx x.ch ∧ x.tx.length ≤ x.ch + 1 ∧ ∀ c ∈ x.tx, c ≠ 10
theorem fine_item (p : Pt) : Fine (itemOf p) := by
  intro h
  have h9 := Nat.mod_lt p.u (show 0 < 9 by decide)
  have hk : p.kind % 6 = 1 := h
  refine ⟨sg_item p h, ?_, ?_⟩
  · simp only [itemOf, if_pos hk, ptx]
    rw [List.length_append, List.length_take, show letters.length = 26 from rfl]
    by_cases e : p.like % 8 = 7
    · rw [if_pos e, if_pos (decide_eq_true e)]; simp; omega
    · rw [if_neg e, if_neg (by simpa using e)]; simp; omega
  · intro c hc
    have := (item_tx p).2.1
    rw [← this] at hc
    unfold plain at hc
    have := (List.mem_filter.1 hc).2
    simp at this
    exact this.2
theorem fine_no {x : It} (h : x.kind ≠ 1) : Fine x := fun k => absurd k h
theorem flat_sg : ∀ (l : List It), (∀ x ∈ l, Fine x) → Sg (flatL l) (sum l) ∧ (flatL l).length ≤ sum l + l.length ∧ ∀ c ∈ flatL l, c ≠ 10
  | [], h => ⟨.nil, Nat.le_refl _, fun c hc => by simp [flatL] at hc⟩
  | x :: r, h => by
    obtain ⟨i1, i2, i3⟩ := flat_sg r (fun y hy => h y (by simp [hy]))
    have hs : sum (x :: r) = x.own + sum r := rfl
    have hf : flatL (x :: r) = (if x.kind = 1 then x.tx else if x.kind = 2 then sp x.n.toNat else []) ++ flatL r := rfl
    rw [hs, hf, List.length_append, List.length_cons]
    by_cases k1 : x.kind = 1
    · obtain ⟨f1, f2, f3⟩ := h x (by simp) k1
      have ho : x.own = x.ch := by simp [It.own, k1]
      rw [if_pos k1, ho]
      refine ⟨f1.app i1, by omega, fun c hc => ?_⟩
      rcases List.mem_append.1 hc with hc | hc
      · exact f3 c hc
      · exact i3 c hc
    · rw [if_neg k1]
      by_cases k2 : x.kind = 2
      · have ho : x.own = x.n.toNat := by simp [It.own, k2]
        have hl : (sp x.n.toNat).length = x.n.toNat := List.length_replicate
        rw [if_pos k2, ho, hl]
        refine ⟨(sg_sp _).app i1, by omega, fun c hc => ?_⟩
        rcases List.mem_append.1 hc with hc | hc
        · rw [List.eq_of_mem_replicate hc]; decide
        · exact i3 c hc
      · have ho : x.own = 0 := by simp [It.own, k1, k2]
        rw [if_neg k2, ho, Nat.zero_add]
        exact ⟨i1, by simp; omega, i3⟩
/-- A whole group around items that keep no break outside: all on one line. -/
def wG : It := ⟨3, [], 0, 0, 0, false, true⟩
theorem ok_wG : OkIt wG := ⟨by decide, by decide, by decide, by decide +kernel, by decide, by decide⟩
theorem lay_one (w : Int) (R : List It) (hi : inner R 1) (hs : ((sum R : Nat) : Int) ≤ w) (hz : ((size (wG :: R) : Nat) : Int) ≤ w) (hm : (flatL R).length ≤ most) : lay w (wG :: R) s0 = some (flatL R) := by
  have e : stepL w s0 wG R = { s0 with g := ⟨true, true, 0⟩, gs := [⟨false, false, 0⟩] } := by
    have gen : ∀ x : It, x.kind = 3 → x.whole = true → x.col = false → x.off = 0 → ((size (x :: R) : Nat) : Int) ≤ w - s0.col → stepL w s0 x R = { s0 with g := ⟨true, true, 0⟩, gs := [⟨false, false, 0⟩] } := by
      intro x k3 kw kc ko hfit
      have k1 : ¬ x.kind = 1 := by omega
      simp only [stepL, if_neg k1, if_pos k3, decide_eq_true hfit, kw, kc, ko]
      rfl
    exact gen wG rfl rfl rfl rfl (by show _ ≤ w - 0; omega)
  unfold lay
  rw [e, if_neg (by show ¬ (most < 0); omega)]
  have := lay_flat w R { s0 with g := ⟨true, true, 0⟩, gs := [⟨false, false, 0⟩] } 1 hi (by show _ ≤ w - 0; omega) (by show ([] ++ flatL R).length ≤ most; exact hm) rfl (fun _ => rfl) (fun g hg => by simp at hg)
  exact this
end Go.Proofs.PlatenLayout
