/- Plain arithmetic of blanks from a column to another one: how they are laid, how far they go, and that none that go as far are fewer. -/
import Derived.Test.YtjdjacnlobjmgaaDoorCallsD
namespace Go.Proofs.PlatenGlyph
set_option linter.unusedVariables false

/-- How far a tab goes. -/
def rch (a tab : Nat) : Nat := tab - a % tab
theorem rch_pos (a tab : Nat) (h : 1 ≤ tab) : 1 ≤ rch a tab ∧ rch a tab ≤ tab := by
  have := Nat.mod_lt a (show tab > 0 by omega); unfold rch; omega

/-- Is it a space that is laid next? -/
def spcB (a to tab : Nat) (expand : Bool) : Bool := expand || (decide (rch a tab < 2) || decide (to - a < rch a tab))
abbrev spc (a to tab : Nat) (expand : Bool) : Prop := spcB a to tab expand = true
theorem spc_iff (a to tab : Nat) (expand : Bool) : spc a to tab expand ↔ (expand = true ∨ rch a tab < 2 ∨ to - a < rch a tab) := by
  unfold spc spcB; simp

def fil (to tab : Nat) (expand : Bool) : Nat → Nat → List Nat
  | 0, _ => []
  | b + 1, a => if a < to then (if spc a to tab expand then 32 :: fil to tab expand b (a + 1) else 9 :: fil to tab expand b (a + rch a tab)) else []

theorem fil_fuel (to tab : Nat) (expand : Bool) (h1 : 1 ≤ tab) : ∀ b b' a, to - a ≤ b → to - a ≤ b' → fil to tab expand b a = fil to tab expand b' a
  | 0, b', a, h, h' => by
    cases b' with
    | zero => rfl
    | succ b' => simp only [fil]; rw [if_neg (by omega)]
  | b + 1, 0, a, h, h' => by simp only [fil]; rw [if_neg (by omega)]
  | b + 1, b' + 1, a, h, h' => by
    have := rch_pos a tab h1
    simp only [fil]
    by_cases c : a < to
    · rw [if_pos c, if_pos c]
      by_cases d : spc a to tab expand
      · rw [if_pos d, if_pos d, fil_fuel to tab expand h1 b b' (a + 1) (by omega) (by omega)]
      · rw [if_neg d, if_neg d, fil_fuel to tab expand h1 b b' (a + rch a tab) (by omega) (by omega)]
    · rw [if_neg c, if_neg c]

/-- The blanks from a on. -/
def fll (a to tab : Nat) (expand : Bool) : List Nat := fil to tab expand (to - a) a

theorem fll_end {a to tab : Nat} {expand : Bool} (h : ¬ a < to) : fll a to tab expand = [] := by
  unfold fll; rw [show to - a = 0 by omega]; rfl
theorem fll_space {a to tab : Nat} {expand : Bool} (h1 : 1 ≤ tab) (h : a < to) (hs : spc a to tab expand) : fll a to tab expand = 32 :: fll (a + 1) to tab expand := by
  unfold fll
  rw [show to - a = (to - (a + 1)) + 1 by omega]
  simp only [fil]
  rw [if_pos h, if_pos hs]
theorem fll_tab {a to tab : Nat} {expand : Bool} (h1 : 1 ≤ tab) (h : a < to) (hs : ¬ spc a to tab expand) : fll a to tab expand = 9 :: fll (a + rch a tab) to tab expand := by
  have := rch_pos a tab h1
  unfold fll
  rw [fil_fuel to tab expand h1 (to - a) ((to - (a + 1)) + 1) a (by omega) (by omega)]
  simp only [fil]
  rw [if_pos h, if_neg hs, fil_fuel to tab expand h1 (to - (a + 1)) (to - (a + rch a tab)) _ (by omega) (by omega)]

/-- Where some blanks lead to, by Step. -/
def lead' (tab : Nat) : List Nat → Nat → Nat
  | [], a => a
  | c :: l, a => lead' tab l (stp a c tab)

theorem stp9 (a tab : Nat) : stp a 9 tab = a + rch a tab := by unfold stp rch; rw [if_pos rfl]
theorem stp32 (a tab : Nat) : stp a 32 tab = a + 1 := by unfold stp; rw [if_neg (by decide)]

theorem fll_ind (P : Nat → List Nat → Prop) (to tab : Nat) (expand : Bool) (h1 : 1 ≤ tab) (h0 : ∀ a, ¬ a < to → P a [])
    (hs : ∀ a l, a < to → spc a to tab expand → P (a + 1) l → P a (32 :: l)) (ht : ∀ a l, a < to → ¬ spc a to tab expand → P (a + rch a tab) l → P a (9 :: l)) : ∀ m a, to - a ≤ m → P a (fll a to tab expand)
  | 0, a, h => by rw [fll_end (by omega)]; exact h0 a (by omega)
  | m + 1, a, h => by
    have := rch_pos a tab h1
    by_cases c : a < to
    · by_cases d : spc a to tab expand
      · rw [fll_space h1 c d]; exact hs a _ c d (fll_ind P to tab expand h1 h0 hs ht m (a + 1) (by omega))
      · rw [fll_tab h1 c d]; exact ht a _ c d (fll_ind P to tab expand h1 h0 hs ht m (a + rch a tab) (by omega))
    · rw [fll_end c]; exact h0 a c

theorem fll_blank (a to tab : Nat) (expand : Bool) (h1 : 1 ≤ tab) : ∀ c, c ∈ fll a to tab expand → (c = 32 ∨ c = 9) ∧ (expand = true → c = 32) := by
  refine fll_ind (fun _ l => ∀ c, c ∈ l → (c = 32 ∨ c = 9) ∧ (expand = true → c = 32)) to tab expand h1 ?_ ?_ ?_ (to - a) a (Nat.le_refl _)
  · intro a h c hc; cases hc
  · intro a l h hs ih c hc
    rcases List.mem_cons.1 hc with rfl | hc
    · exact ⟨Or.inl rfl, fun _ => rfl⟩
    · exact ih c hc
  · intro a l h hs ih c hc
    rcases List.mem_cons.1 hc with rfl | hc
    · refine ⟨Or.inr rfl, fun he => ?_⟩
      exact absurd ((spc_iff _ _ _ _).2 (Or.inl he)) hs
    · exact ih c hc

theorem fll_leads (a to tab : Nat) (expand : Bool) (h1 : 1 ≤ tab) (h : a ≤ to) : lead' tab (fll a to tab expand) a = to := by
  refine fll_ind (fun a l => a ≤ to → lead' tab l a = to) to tab expand h1 ?_ ?_ ?_ (to - a) a (Nat.le_refl _) h
  · intro a h h'; show a = to; omega
  · intro a l h hs ih h'
    show lead' tab l (stp a 32 tab) = to
    rw [stp32]; exact ih (by omega)
  · intro a l h hs ih h'
    show lead' tab l (stp a 9 tab) = to
    rw [stp9]
    rw [spc_iff] at hs
    exact ih (by omega)

theorem fll_len (a to tab : Nat) (expand : Bool) (h1 : 1 ≤ tab) : (fll a to tab expand).length ≤ to - a := by
  refine fll_ind (fun a l => l.length ≤ to - a) to tab expand h1 ?_ ?_ ?_ (to - a) a (Nat.le_refl _)
  · intro a h; exact Nat.zero_le _
  · intro a l h hs ih; simp only [List.length_cons]; omega
  · intro a l h hs ih; have := rch_pos a tab h1; simp only [List.length_cons]; omega

/-- A text of blanks: its signs are its bytes, and Wide goes where the blanks lead. -/
theorem nth_ascii {f : Nat → Nat} {n : Nat} (h : ∀ j, j < n → f j < 128) : ∀ k, k ≤ n → nth f n k = k
  | 0, _ => rfl
  | k + 1, hk => by
    have ih := nth_ascii h k (by omega)
    show nth f n k + szAt f n (nth f n k) = k + 1
    rw [ih, szAt_cont (by omega) (by have := h k (by omega); omega)]

theorem cnt_ascii {f : Nat → Nat} {n : Nat} (h : ∀ j, j < n → f j < 128) : cnt f n = n :=
  cnt_eq (nth_ascii h n (Nat.le_refl _)) fun j hj => by rw [nth_ascii h j (by omega)]; exact hj

theorem wid_lead {l : List Nat} (h : ∀ c, c ∈ l → c < 128) (col tab : Nat) : ∀ k, k ≤ l.length → wid (fun j => l.getD j 0) l.length col tab k = lead' tab (l.take k) col := by
  have hf : ∀ j, j < l.length → (fun j => l.getD j 0) j < 128 := fun j hj => h _ (by
    show l.getD j 0 ∈ l
    rw [List.getD_eq_getElem?_getD, List.getElem?_eq_getElem hj]; exact List.getElem_mem hj)
  have snoc : ∀ (l : List Nat) (c a : Nat), lead' tab (l ++ [c]) a = stp (lead' tab l a) c tab := by
    intro l
    induction l with
    | nil => intro c a; rfl
    | cons x l ih => intro c a; exact ih c (stp a x tab)
  intro k
  induction k with
  | zero => intro _; rfl
  | succ k ih =>
    intro hk
    have hn := nth_ascii hf k (by omega)
    have hlt : nth (fun j => l.getD j 0) l.length k < l.length := by rw [hn]; omega
    simp only [wid]
    rw [if_pos hlt, ih (by omega), hn, List.take_add_one, List.getElem?_eq_getElem (by omega : k < l.length)]
    show stp _ (l.getD k 0) tab = lead' tab (l.take k ++ [l[k]]) col
    rw [snoc, List.getD_eq_getElem?_getD, List.getElem?_eq_getElem (by omega : k < l.length)]
    rfl

theorem wide_lead {l : List Nat} (h : ∀ c, c ∈ l → c < 128) (col tab : Nat) : wide (fun j => l.getD j 0) l.length col tab = lead' tab l col := by
  have hf : ∀ j, j < l.length → (fun j => l.getD j 0) j < 128 := fun j hj => h _ (by
    show l.getD j 0 ∈ l
    rw [List.getD_eq_getElem?_getD, List.getElem?_eq_getElem hj]; exact List.getElem_mem hj)
  unfold wide
  rw [cnt_ascii hf, wid_lead h col tab _ (Nat.le_refl _), List.take_length]

end Go.Proofs.PlatenGlyph
