/- Two expressions in parentheses, with a quote ahead, are one: with all their tokens. -/
import Derived.Test.YtpcfbdnckmfelaaSxN
namespace Go.Proofs.PlatenSexp
set_option linter.unusedVariables false

theorem start_low (M : Sm) (c i : Nat) (hd : M.dep ≤ i) (hf : M.fr ≤ i) : (start M c i).2.dep ≤ i + 1 ∧ (start M c i).2.fr ≤ i + 1 := by
  unfold start
  split
  · simp; omega
  · split
    · simp; omega
    · split
      · split <;> (simp; try omega)
      · split
        · simp; omega
        · split <;> (simp; try omega)
theorem feedB_low (M : Sm) (c i : Nat) (hd : M.dep ≤ i) (hf : M.fr ≤ i) : (feedB M c i).2.dep ≤ i + 1 ∧ (feedB M c i).2.fr ≤ i + 1 := by
  unfold feedB
  split
  · simp; omega
  · split
    · simp; omega
    · split
      · simp; omega
      · exact start_low M c i hd hf
theorem feed_low (M : Sm) (c i : Nat) (hd : M.dep ≤ i) (hf : M.fr ≤ i) : (feed M c i).2.dep ≤ i + 1 ∧ (feed M c i).2.fr ≤ i + 1 := by
  unfold feed
  split
  · split
    · simp; omega
    · split <;> (simp; try omega)
  · split
    · simp; omega
    · split
      · split
        · simp; omega
        · exact feedB_low _ c i hd hf
      · split
        · split
          · simp; omega
          · exact feedB_low _ c i hd hf
        · exact feedB_low _ c i hd hf
theorem emb_run {f g : Nat → Nat} {s : Nat} {pre l : List Tk} : ∀ (k i : Nat) (M M' : Sm), Emb s pre M M' → M.dep ≤ i → M.fr ≤ i → i + k ≤ 500 → (∀ j, i ≤ j → j < i + k → f (j + s) = g j) → run g k i M = (l, 0, 0) →
    ∃ M2 M2', Emb s pre M2 M2' ∧ M2.fr ≤ i + k ∧ fin' M2 (i + k) = (l, 0, 0) ∧ ∀ n, i + k + s ≤ n → out f n M' (i + s) = out f n M2' (i + k + s)
  | 0, i, M, M', E, hd, hf, hk, hs, h => ⟨M, M', E, hf, h, fun n _ => rfl⟩
  | k + 1, i, M, M', E, hd, hf, hk, hs, h => by
    unfold run at h
    split at h
    · rename_i h0
      obtain ⟨x, E2⟩ := emb_feed E (by omega) hf h0
      obtain ⟨d2, f2⟩ := feed_low M (g i) i hd hf
      obtain ⟨M2, M2', E3, hf3, hfin, hout⟩ := emb_run k (i + 1) _ _ E2 d2 f2 (by omega) (fun j a b => hs j (by omega) (by omega)) h
      refine ⟨M2, M2', E3, by omega, by rw [show i + (k + 1) = i + 1 + k by omega]; exact hfin, fun n hn => ?_⟩
      have e : feed M' (f (i + s)) (i + s) = (0, (feed M' (g i) (i + s)).2) := by
        rw [hs i (Nat.le_refl _) (by omega)]
        exact Prod.ext x rfl
      rw [out_ok (by omega) e, show i + s + 1 = i + 1 + s by omega, show i + (k + 1) + s = i + 1 + k + s by omega]
      exact hout n (by omega)
    · injection h with h1 h2
      injection h2 with h3 h4
      rename_i h0
      exact absurd h4 h0
theorem emb_text {f g : Nat → Nat} {n s np : Nat} {o : Res} {pre l : List Tk} (h : Cv f n o 1 1 pre s) (hp : np ≤ 500) (hs : ∀ j, j < np → f (j + s) = g j) (hl : ans g np = (l, 0, 0)) (hn : np + s ≤ n) (he : np + s < n → isP (f (np + s)) = false) :
    Cv f n o 1 1 (pre ++ sh s l) (np + s) := by
  obtain ⟨fr, h⟩ := h
  have E : Emb s pre M0 ⟨1, 1, fr, pre⟩ := ⟨rfl, by simp [sh, M0], Or.inl ⟨rfl, Or.inr rfl⟩⟩
  obtain ⟨M2, M2', E2, hf2, hfin, hout⟩ := emb_run (f := f) (np - 0) 0 M0 _ E (Nat.le_refl _) (Nat.le_refl _) (by omega) (fun j _ b => hs j (by omega)) hl
  have h2 : Cur f n o M2'.st M2'.dep M2'.l M2'.fr (np + s) := by
    have := hout n (by omega)
    rw [show 0 + (np - 0) + s = np + s by omega, show 0 + s = s by omega] at this
    exact Eq.trans h this
  rw [show 0 + (np - 0) = np by omega] at hfin hf2
  have hl2 := E2.l
  have hd2 := E2.dep
  obtain ⟨st, dep, fr2, l2⟩ := M2
  obtain ⟨st', dep', fr2', l2'⟩ := M2'
  simp only at hl2 hd2 h2 hf2
  have hst := E2.st
  simp only at hst
  unfold fin' at hfin
  by_cases h3 : st = 3
  · subst h3
    rw [if_pos rfl] at hfin
    simp only [finA] at hfin
    rcases aft_cases dep with ⟨ea, rfl⟩ | ⟨ea, _⟩
    · rw [ea] at hfin
      simp at hfin
      have e' : st' = 3 ∧ fr2' = fr2 + s := by rcases hst with e | e | e | e <;> omega
      obtain ⟨rfl, rfl⟩ := e'
      subst hd2
      have h4 := a_end h2 (by omega) he
      have ea1 : aft (0 + 1) = 1 := rfl
      rw [ea1] at h4
      rw [hl2, List.append_assoc] at h4
      have : sh s l = sh s l2 ++ [(5, fr2 + s, np + s - (fr2 + s))] := by
        rw [← hfin]
        simp [sh]
        omega
      rw [this]
      exact h4
    · rw [ea] at hfin
      simp at hfin
  · rw [if_neg h3] at hfin
    unfold finA at hfin
    by_cases h6 : st = 6
    · subst h6
      simp at hfin
      have e' : st' = 1 ∧ dep = 0 := by rcases hst with e | e | e | e <;> omega
      obtain ⟨rfl, rfl⟩ := e'
      subst hd2
      rw [hl2, hfin] at h2
      exact ⟨_, h2⟩
    · simp [h6] at hfin
/-- The text of SexpLists. -/
def LL (p q : List Nat) : List Nat := [39, 40] ++ p ++ [32] ++ q ++ [41]
theorem LL_len (p q : List Nat) : (LL p q).length = p.length + q.length + 4 := by unfold LL; simp; omega
theorem ans_lists (p q : List Nat) (l m : List Tk) (hp : p.length ≤ 500) (hq : q.length ≤ 500) (h1 : ans (fOf p) p.length = (l, 0, 0)) (h2 : ans (fOf q) q.length = (m, 0, 0)) :
    ans (fOf (LL p q)) (LL p q).length = ([(6, 0, 1), (1, 1, 1)] ++ sh 2 l ++ sh (p.length + 3) m ++ [(2, p.length + q.length + 3, 1)], 0, 0) := by
  have hn := LL_len p q
  have ha := lat_fOf (LL p q)
  have hc := begins (fOf (LL p q)) (LL p q).length
  generalize ans (fOf (LL p q)) (LL p q).length = o at *
  generalize fOf (LL p q) = f at *
  generalize (LL p q).length = n at *
  unfold LL at ha
  have a1 := q_one hc (Or.inl rfl) (by omega) (Or.inl (Lat.head ha.left.left.left.left))
  have a2 := l_open a1 (Or.inl rfl) (by omega) (Lat.head (Lat.tail ha.left.left.left.left)) (by decide)
  have fp : ∀ j, j < p.length → f (j + 2) = fOf p j := fun j hj => by
    have := ha.left.left.left.right j (p[j]) (List.getElem?_eq_getElem hj)
    rw [show 0 + ([39, 40] : List Nat).length + j = j + 2 by simp; omega] at this
    rw [this]
    unfold fOf
    rw [List.getD_eq_getElem?_getD, List.getElem?_eq_getElem hj]
    rfl
  have f32 : f (p.length + 2) = 32 := by
    have := ha.left.left.right.head
    rw [show 0 + (([39, 40] : List Nat) ++ p).length = p.length + 2 by simp] at this
    exact this
  have a3 := emb_text a2 hp fp h1 (by omega) (fun _ => by rw [f32]; decide)
  have a4 := b_one a3 (Or.inr (Or.inl rfl)) (by omega) (by rw [f32]; decide)
  have fq : ∀ j, j < q.length → f (j + (p.length + 3)) = fOf q j := fun j hj => by
    have := ha.left.right j (q[j]) (List.getElem?_eq_getElem hj)
    rw [show 0 + (([39, 40] : List Nat) ++ p ++ ([32] : List Nat)).length + j = j + (p.length + 3) by simp; omega] at this
    rw [this]
    unfold fOf
    rw [List.getD_eq_getElem?_getD, List.getElem?_eq_getElem hj]
    rfl
  have f41 : f (q.length + (p.length + 3)) = 41 := by
    have := ha.right.head
    rw [show 0 + (([39, 40] : List Nat) ++ p ++ ([32] : List Nat) ++ q).length = q.length + (p.length + 3) by simp; omega] at this
    exact this
  have a5 := emb_text a4 hq fq h2 (by omega) (fun _ => by rw [f41]; decide)
  have a6 := l_close a5 (by omega) f41
  have e0 : aft (1 - 1) = 6 := rfl
  rw [e0, show q.length + (p.length + 3) + 1 = n by omega, show q.length + (p.length + 3) = p.length + q.length + 3 by omega] at a6
  rw [top_ok a6]
  rfl
end Go.Proofs.PlatenSexp
