/- Leaders of lines, as lists of bytes: plain mathematics. -/
import Derived.Test.YtglgcbocpdenhabDoorProg
namespace Go.Proofs.PlatenLeader

def bl (c : UInt8) : Bool := c == 32 || c == 9
def nb (c : UInt8) : Bool := !bl c
def pre (l : List UInt8) : List UInt8 := l.takeWhile bl
def pst (l : List UInt8) : List UInt8 := l.dropWhile bl
def wrd (l : List UInt8) : List UInt8 := (pst l).takeWhile nb
def aft (l : List UInt8) : List UInt8 := (pst l).dropWhile nb
def marksL : List (List UInt8) := [[47, 47], [45, 45], [59, 59], [35], [59], [42], [62], [37]]
def mkB (l : List UInt8) : Bool := marksL.contains l
def hd (l : List UInt8) : List UInt8 := if mkB (wrd l) then pre l ++ wrd l else pre l
def gp (l : List UInt8) : List UInt8 := if mkB (wrd l) then pre (aft l) else []
def rs (l : List UInt8) : List UInt8 := if mkB (wrd l) then pst (aft l) else pst l

theorem pre_pst (l : List UInt8) : pre l ++ pst l = l := List.takeWhile_append_dropWhile
theorem wrd_aft (l : List UInt8) : wrd l ++ aft l = pst l := List.takeWhile_append_dropWhile
theorem parts (l : List UInt8) : hd l ++ gp l ++ rs l = l := by
  unfold hd gp rs
  cases mkB (wrd l)
  · simp [pre_pst]
  · simp only [if_true, List.append_assoc]
    rw [pre_pst, wrd_aft, pre_pst]

theorem pre_all (l : List UInt8) : ∀ c ∈ pre l, bl c = true := by
  intro c hc
  induction l with
  | nil => simp [pre] at hc
  | cons a t ih =>
    unfold pre at hc ih
    by_cases h : bl a = true
    · rw [List.takeWhile_cons_of_pos h] at hc
      rcases List.mem_cons.1 hc with rfl | hc
      · exact h
      · exact ih hc
    · rw [List.takeWhile_cons_of_neg h] at hc; cases hc
theorem wrd_all (l : List UInt8) : ∀ c ∈ wrd l, nb c = true := by
  intro c hc
  unfold wrd at hc
  generalize pst l = m at hc
  induction m with
  | nil => simp at hc
  | cons a t ih =>
    by_cases h : nb a = true
    · rw [List.takeWhile_cons_of_pos h] at hc
      rcases List.mem_cons.1 hc with rfl | hc
      · exact h
      · exact ih hc
    · rw [List.takeWhile_cons_of_neg h] at hc; cases hc

/-- Blanks ahead of something that doesn't begin with one. -/
theorem tw_app (p : UInt8 → Bool) : ∀ (a b : List UInt8), (∀ c ∈ a, p c = true) → (∀ c, b.head? = some c → p c = false) → (a ++ b).takeWhile p = a ∧ (a ++ b).dropWhile p = b
  | [], [], _, _ => by simp
  | [], c :: b, _, h => by have := h c rfl; simp [this]
  | x :: a, b, ha, hb => by
    have hx := ha x (List.mem_cons_self ..)
    obtain ⟨h1, h2⟩ := tw_app p a b (fun c hc => ha c (List.mem_cons_of_mem _ hc)) hb
    simp [hx, h1, h2]
theorem pre_app {a b : List UInt8} (ha : ∀ c ∈ a, bl c = true) (hb : ∀ c, b.head? = some c → bl c = false) : pre (a ++ b) = a ∧ pst (a ++ b) = b := tw_app bl a b ha hb
theorem mk_ne {l : List UInt8} (h : mkB l = true) : l ≠ [] := by
  rintro rfl; revert h; decide
theorem nb_bl {c : UInt8} (h : nb c = true) : bl c = false := by simpa [nb] using h
theorem bl_nb {c : UInt8} (h : bl c = true) : nb c = false := by simp [nb, h]

/-- A line of blanks, a word, and what follows, which begins with a blank. -/
theorem split3 {a m r : List UInt8} (ha : ∀ c ∈ a, bl c = true) (hm : ∀ c ∈ m, nb c = true) (hne : m ≠ []) (hr : ∀ c, r.head? = some c → bl c = true) :
    pre (a ++ (m ++ r)) = a ∧ wrd (a ++ (m ++ r)) = m ∧ aft (a ++ (m ++ r)) = r := by
  have hh : ∀ c, (m ++ r).head? = some c → bl c = false := by
    intro c hc
    cases m with
    | nil => exact absurd rfl hne
    | cons x t => simp at hc; subst hc; exact nb_bl (hm x (List.mem_cons_self ..))
  obtain ⟨h1, h2⟩ := pre_app ha hh
  obtain ⟨h3, h4⟩ := tw_app nb m r hm (fun c hc => bl_nb (hr c hc))
  unfold wrd aft
  rw [h2]
  exact ⟨h1, h3, h4⟩

theorem again (l : List UInt8) : hd (hd l) = hd l ∧ gp (hd l) = [] ∧ rs (hd l) = [] := by
  by_cases h : mkB (wrd l) = true
  · have e : hd l = pre l ++ (wrd l ++ []) := by unfold hd; rw [if_pos h]; simp
    obtain ⟨h1, h2, h3⟩ := split3 (r := []) (pre_all l) (wrd_all l) (mk_ne h) (fun c hc => by simp at hc)
    have h4 : mkB (wrd (pre l ++ (wrd l ++ []))) = true := by rw [h2]; exact h
    rw [e]
    refine ⟨?_, ?_, ?_⟩
    · unfold hd; rw [if_pos h4, h1, h2]; simp
    · unfold gp; rw [if_pos h4, h3]; rfl
    · unfold rs; rw [if_pos h4, h3]; rfl
  · have e : hd l = pre l ++ [] := by unfold hd; rw [if_neg h]; simp
    obtain ⟨h1, h2⟩ := pre_app (b := []) (pre_all l) (fun c hc => by simp at hc)
    have h3 : wrd (pre l ++ []) = [] := by unfold wrd; rw [h2]; rfl
    have h4 : ¬ mkB (wrd (pre l ++ [])) = true := by rw [h3]; decide
    rw [e]
    refine ⟨?_, ?_, ?_⟩
    · unfold hd; rw [if_neg h4, h1]; simp
    · unfold gp; rw [if_neg h4]
    · unfold rs; rw [if_neg h4, h2]

/-- Nothing but blanks? -/
def bareB (l : List UInt8) : Bool := l.all bl
theorem bare_len (l : List UInt8) : bareB l = ((pre l).length == l.length) := by
  unfold bareB
  induction l with
  | nil => rfl
  | cons a t ih =>
    unfold pre at ih ⊢
    by_cases h : bl a = true
    · rw [List.takeWhile_cons_of_pos h, List.all_cons, h, ih]; simp
    · have h' : bl a = false := by simpa using h
      rw [List.takeWhile_cons_of_neg h, List.all_cons, h']; simp
theorem bare_hd (l : List UInt8) : bareB (hd l) = !mkB (wrd l) := by
  unfold bareB hd
  by_cases h : mkB (wrd l) = true
  · rw [if_pos h, h, List.all_append]
    have hne := mk_ne h
    have hw := wrd_all l
    cases hq : wrd l with
    | nil => exact absurd hq hne
    | cons x t =>
      rw [hq] at hw
      have := nb_bl (hw x (List.mem_cons_self ..))
      simp [this]
  · have h' : mkB (wrd l) = false := by simpa using h
    rw [if_neg h, h']
    have := pre_all l
    simpa using this
theorem gp_bare (l : List UInt8) (h : bareB (hd l) = true) : gp l = [] := by
  rw [bare_hd] at h
  have h' : mkB (wrd l) = false := by simpa using h
  unfold gp; rw [h']; rfl

theorem mk_x (t : List UInt8) : mkB (120 :: t) = false := by
  unfold mkB marksL
  simp

theorem stays (l w : List UInt8) (h : ¬ (bareB (hd l) = false ∧ gp l = [])) :
    hd (hd l ++ gp l ++ 120 :: w) = hd l ∧ gp (hd l ++ gp l ++ 120 :: w) = gp l ∧ rs (hd l ++ gp l ++ 120 :: w) = 120 :: w := by
  rw [bare_hd] at h
  have hx : bl 120 = false := by decide
  by_cases hm : mkB (wrd l) = true
  · have hg : gp l ≠ [] := fun e => h ⟨by simp [hm], e⟩
    have eh : hd l = pre l ++ wrd l := by unfold hd; rw [if_pos hm]
    have eg : gp l = pre (aft l) := by unfold gp; rw [if_pos hm]
    have ga := pre_all (aft l)
    rw [← eg] at ga
    have hr : ∀ c, (gp l ++ 120 :: w).head? = some c → bl c = true := by
      intro c hc
      cases hq : gp l with
      | nil => exact absurd hq hg
      | cons x t => rw [hq] at hc ga; simp at hc; subst hc; exact ga x (List.mem_cons_self ..)
    obtain ⟨h1, h2, h3⟩ := split3 (r := gp l ++ 120 :: w) (pre_all l) (wrd_all l) (mk_ne hm) hr
    have e : hd l ++ gp l ++ 120 :: w = pre l ++ (wrd l ++ (gp l ++ 120 :: w)) := by rw [eh]; simp
    have h4 : mkB (wrd (pre l ++ (wrd l ++ (gp l ++ 120 :: w)))) = true := by rw [h2]; exact hm
    obtain ⟨g1, g2⟩ := pre_app (b := 120 :: w) ga (fun c hc => by simp at hc; subst hc; exact hx)
    rw [e]
    refine ⟨?_, ?_, ?_⟩
    · rw [hd, if_pos h4, h1, h2, eh]
    · rw [gp, if_pos h4, h3, g1]
    · rw [rs, if_pos h4, h3, g2]
  · have eh : hd l = pre l := by unfold hd; rw [if_neg hm]
    have eg : gp l = [] := by unfold gp; rw [if_neg hm]
    rw [eh, eg, List.append_nil]
    obtain ⟨g1, g2⟩ := pre_app (b := 120 :: w) (pre_all l) (fun c hc => by simp at hc; subst hc; exact hx)
    have h3 : wrd (pre l ++ 120 :: w) = 120 :: w.takeWhile nb := by
      unfold wrd; rw [g2, List.takeWhile_cons_of_pos (by decide)]
    have h4 : ¬ mkB (wrd (pre l ++ 120 :: w)) = true := by rw [h3, mk_x]; decide
    refine ⟨?_, ?_, ?_⟩
    · rw [hd, if_neg h4, g1]
    · rw [gp, if_neg h4]
    · rw [rs, if_neg h4, g2]

theorem hd_len (l : List UInt8) : (hd l).length ≤ l.length ∧ (gp l).length ≤ l.length ∧ (hd l).length + (gp l).length ≤ l.length := by
  have := congrArg List.length (parts l)
  simp at this
  omega
end Go.Proofs.PlatenLeader
