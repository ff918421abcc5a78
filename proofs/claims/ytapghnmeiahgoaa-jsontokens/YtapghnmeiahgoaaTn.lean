/- Where each token is; the first and the last one of a list; an append to a row that is full. -/
import Derived.Test.YtapghnmeiahgoaaTm
namespace Go.Proofs.Ytapghnmeiahgoaa
open Go.ChangeShapes Go.WideShapes Go.ChangeAt Go.RowKit Go.Proofs.PlatenJson
set_option linter.unusedVariables false
set_option maxRecDepth 100000

/-- Where the token ahead of token i ends. -/
def en (T : List Tk) (i : Nat) : Nat := if i = 0 then 0 else (T.getD (i - 1) (0, 0, 0)).2.1 + (T.getD (i - 1) (0, 0, 0)).2.2
theorem ch_en {f : Nat → Nat} {e : Nat} : ∀ (l : List Tk) (s : Nat), Ch f l s e → (∀ i, i < l.length → ((if i = 0 then s else en l i) ≤ (l.getD i (0, 0, 0)).2.1 ∧ (∀ j, (if i = 0 then s else en l i) ≤ j → j < (l.getD i (0, 0, 0)).2.1 → isB (f j) = true) ∧ 1 ≤ (l.getD i (0, 0, 0)).2.2)) ∧ e = (if l.length = 0 then s else en l l.length)
  | [], s, h => ⟨fun i hi => absurd hi (Nat.not_lt_zero _), h.symm⟩
  | t :: ts, s, h => by
    obtain ⟨h1, h2⟩ := ch_en ts _ h.2.2.2
    refine ⟨fun i hi => ?_, ?_⟩
    · match i, hi with
      | 0, _ => exact ⟨h.1, h.2.1, h.2.2.1⟩
      | i + 1, hi =>
        have := h1 i (by simpa using hi)
        have e2 : (if i = 0 then t.2.1 + t.2.2 else en ts i) = en (t :: ts) (i + 1) := by
          cases i with
          | zero => rfl
          | succ i => simp [en]
        rw [e2] at this
        rw [if_neg (by omega)]
        simpa using this
    · rw [h2]
      cases ts with
      | nil => rfl
      | cons a r => simp [en]
/-- Each token, and what is ahead of it; what is behind the last one. -/
theorem ts_en {f : Nat → Nat} {T : List Tk} {n : Nat} (h : Ts f T n) : (∀ i, i < T.length → (en T i ≤ (T.getD i (0, 0, 0)).2.1 ∧ (∀ j, en T i ≤ j → j < (T.getD i (0, 0, 0)).2.1 → isB (f j) = true) ∧ 1 ≤ (T.getD i (0, 0, 0)).2.2 ∧ (T.getD i (0, 0, 0)).2.1 + (T.getD i (0, 0, 0)).2.2 ≤ n)) ∧ en T T.length ≤ n ∧ ∀ j, en T T.length ≤ j → j < n → isB (f j) = true := by
  obtain ⟨e, h1, h2, h3⟩ := h
  obtain ⟨a, b⟩ := ch_en T 0 h1
  have e0 : ∀ i, (if i = 0 then 0 else en T i) = en T i := fun i => by
    by_cases hi : i = 0
    · simp [hi, en]
    · rw [if_neg hi]
  simp only [e0] at a
  rw [e0] at b
  subst b
  refine ⟨fun i hi => ?_, h2, h3⟩
  obtain ⟨a1, a2, a3⟩ := a i hi
  refine ⟨a1, a2, a3, ?_⟩
  have := (ch_le T 0 h1).2 (T.getD i (0, 0, 0)) (by rw [List.getD_eq_getElem?_getD, List.getElem?_eq_getElem hi]; exact List.getElem_mem hi)
  omega

/-! The first token, and the last. -/
def Gv (M : Mc) (p : Nat × Mc) : Prop := p.1 = 0 → ∃ ts, p.2.l = M.l ++ ts
theorem gv_err {M M' : Mc} {x : Nat} (h : x ≠ 0) : Gv M (x, M') := fun e => absurd e h
theorem gv_same {M M' : Mc} (h : M'.l = M.l) : Gv M (0, M') := fun _ => ⟨[], by rw [List.append_nil]; exact h⟩
theorem gv_ite {M : Mc} {c : Prop} [Decidable c] {p q : Nat × Mc} (h1 : Gv M p) (h2 : Gv M q) : Gv M (if c then p else q) := by split <;> assumption
theorem gv_trans {M M1 : Mc} {p : Nat × Mc} (h : ∃ ts, M1.l = M.l ++ ts) (h2 : Gv M1 p) : Gv M p := fun e => by
  obtain ⟨a, ha⟩ := h
  obtain ⟨b, hb⟩ := h2 e
  exact ⟨a ++ b, by rw [hb, ha, List.append_assoc]⟩
theorem next_gv (M : Mc) (c i : Nat) : Gv M (next M c i) := by
  unfold next
  cases M.stack with
  | nil => exact gv_err (by decide)
  | cons b S => exact gv_ite (fun _ => ⟨_, rfl⟩) (gv_ite (fun _ => ⟨_, rfl⟩) (gv_ite (fun _ => ⟨_, rfl⟩) (gv_err (by decide))))
theorem begin_gv (M : Mc) (c i : Nat) : Gv M (begin' M c i) := by
  unfold begin'
  exact gv_ite (gv_ite (gv_err (by decide)) (fun _ => ⟨_, rfl⟩)) (gv_ite (gv_same rfl) (gv_ite (gv_same rfl) (gv_ite (gv_same rfl) (gv_ite (gv_same rfl) (gv_ite (gv_same rfl) (gv_ite (gv_same rfl) (gv_ite (gv_same rfl) (gv_err (by decide)))))))))
theorem inside_gv (M : Mc) (c i : Nat) : Gv M (inside M c i) := by
  unfold inside
  refine gv_ite (gv_ite (gv_err (by decide)) (gv_ite (fun _ => ⟨_, rfl⟩) (gv_ite (gv_same rfl) (gv_same rfl)))) (gv_ite (gv_ite (gv_same rfl) (gv_ite (gv_same rfl) (gv_err (by decide)))) (gv_ite (gv_ite (gv_same rfl) (gv_err (by decide))) ?_))
  cases M.left with
  | nil => exact gv_err (by decide)
  | cons b r => exact gv_ite (gv_err (by decide)) (gv_ite (fun _ => ⟨_, rfl⟩) (gv_same rfl))
theorem feed_gv (M : Mc) (c i : Nat) : Gv M (feed M c i) := by
  unfold feed
  refine gv_ite (gv_same rfl) (gv_trans (M1 := if ends M.st then atom M i else M) ?_ ?_)
  · split
    · exact ⟨_, rfl⟩
    · exact ⟨[], (List.append_nil _).symm⟩
  · unfold feedA
    exact gv_ite (inside_gv _ _ _) (gv_ite (gv_err (by decide)) (gv_ite (gv_same rfl) (gv_ite (begin_gv _ _ _) (gv_ite (gv_ite (next_gv _ _ _) (begin_gv _ _ _)) (gv_ite (gv_ite (next_gv _ _ _) (gv_ite (gv_err (by decide)) (gv_same rfl))) (gv_ite (gv_ite (gv_err (by decide)) (fun _ => ⟨_, rfl⟩)) (next_gv _ _ _)))))))
theorem fin_gv (M : Mc) (i : Nat) (e : (fin' M i).2.2 = 0) : ∃ ts, (fin' M i).1 = M.l ++ ts := by
  have h : ∀ M' : Mc, (finA M' i).2.2 = 0 → (finA M' i).1 = M'.l := fun M' e => by
    unfold finA at e ⊢
    split at e
    · cases e
    · rename_i q; rw [if_neg q]
  unfold fin' at e ⊢
  cases he : ends M.st with
  | true => rw [he] at e; exact ⟨_, h _ e⟩
  | false => rw [he] at e; exact ⟨[], by rw [List.append_nil]; exact h _ e⟩
theorem run_gv (f : Nat → Nat) : ∀ (k i : Nat) (M : Mc), (run f k i M).2.2 = 0 → ∃ ts, (run f k i M).1 = M.l ++ ts
  | 0, i, M, e => fin_gv M i e
  | k + 1, i, M, e => by
    unfold run at e ⊢
    by_cases h0 : (feed M (f i) i).1 = 0
    · rw [if_pos h0] at e ⊢
      obtain ⟨a, ha⟩ := feed_gv M (f i) i h0
      obtain ⟨b, hb⟩ := run_gv f k (i + 1) _ e
      exact ⟨a ++ b, by rw [hb, ha, List.append_assoc]⟩
    · rw [if_neg h0] at e
      exact absurd e h0
theorem ans_first {f : Nat → Nat} {n : Nat} (hn : 0 < n) (h : f 0 = 91) (e : (ans f n).2.2 = 0) : ∃ ts, (ans f n).1 = (1, 0, 1) :: ts := by
  obtain ⟨k, rfl⟩ : ∃ k, n = k + 1 := ⟨n - 1, by omega⟩
  have e1 : ans f (k + 1) = run f k 1 ⟨1, [91], 0, false, [], 0, [(1, 0, 1)]⟩ := by
    unfold ans out
    rw [Nat.sub_zero, run, h]
    rfl
  rw [e1] at e ⊢
  exact run_gv f k 1 _ e
/-- A word that is left has no bracket. -/
def Wv (M : Mc) : Prop := M.st = 17 → ∀ x ∈ M.left, x ≠ 93
theorem last_feed {M : Mc} {i : Nat} (hw : Wv M) (h0 : (feed M 93 i).1 = 0) (h5 : ends (feed M 93 i).2.st = true ∨ (feed M 93 i).2.st = 5) (h17 : M.st ≤ 17) : ∃ l, (feed M 93 i).2.l = l ++ [(2, i, 1)] ∧ (feed M 93 i).2.st = 5 := by
  have hnx : ∀ M' : Mc, (next M' 93 i).1 = 0 → ∃ l, (next M' 93 i).2.l = l ++ [(2, i, 1)] ∧ (next M' 93 i).2.st = 5 := fun M' e => by
    unfold next at e ⊢
    cases hS : M'.stack with
    | nil => rw [hS] at e; cases e
    | cons b S =>
      rw [hS] at e
      simp only at e ⊢
      by_cases hb : b = 91
      · subst hb; exact ⟨_, rfl, rfl⟩
      · simp [hb] at e
  obtain ⟨st, S, fr, nm, left, cnt, l⟩ := M
  simp only at h17
  have hE : st = 10 ∨ st = 11 ∨ st = 13 ∨ st = 16 → feed ⟨st, S, fr, nm, left, cnt, l⟩ 93 i = feedA (atom ⟨st, S, fr, nm, left, cnt, l⟩ i) 93 i := by
    rintro (rfl | rfl | rfl | rfl) <;> rfl
  have hA : ∀ M' : Mc, M'.st = 4 ∨ M'.st = 5 → (feedA M' 93 i).1 = 0 → ∃ l, (feedA M' 93 i).2.l = l ++ [(2, i, 1)] ∧ (feedA M' 93 i).2.st = 5 := fun M' h e => by
    obtain ⟨st', S', fr', nm', left', cnt', l'⟩ := M'
    rcases h with h | h <;> simp only at h <;> subst h
    · exact absurd e (by simp [feedA, isB])
    · exact hnx _ e
  by_cases q : st = 10 ∨ st = 11 ∨ st = 13 ∨ st = 16
  · rw [hE q] at h0 h5 ⊢
    exact hA _ (by simp only [atom]; split <;> simp) h0
  · match st, h17, q, hw, h0, h5 with
    | 0, _, _, _, h0, _ => exact absurd h0 (by simp [feed, numb, ends, feedA, isB, begin', isD])
    | 1, _, _, _, h0, _ => exact hnx _ h0
    | 2, _, _, _, h0, _ => exact absurd h0 (by simp [feed, numb, ends, feedA, isB])
    | 3, _, _, _, h0, _ => exact absurd h0 (by simp [feed, numb, ends, feedA, isB])
    | 4, _, _, _, h0, _ => exact absurd h0 (by simp [feed, numb, ends, feedA, isB])
    | 5, _, _, _, h0, _ => exact hnx _ h0
    | 6, _, _, _, _, h5 => exact absurd h5 (by simp [feed, numb, ends, feedA, inside])
    | 7, _, _, _, h0, _ => exact absurd h0 (by simp [feed, numb, ends, feedA, inside, isE])
    | 8, _, _, _, h0, _ => exact absurd h0 (by simp [feed, numb, ends, feedA, inside, isH, isD])
    | 9, _, _, _, h0, _ => exact absurd h0 (by simp [feed, numb, ends, feedA, isD])
    | 12, _, _, _, h0, _ => exact absurd h0 (by simp [feed, numb, ends, feedA, isD])
    | 14, _, _, _, h0, _ => exact absurd h0 (by simp [feed, numb, ends, feedA, isD])
    | 15, _, _, _, h0, _ => exact absurd h0 (by simp [feed, numb, ends, feedA, isD])
    | 17, _, _, hw, h0, _ =>
      have hw := hw rfl
      cases left with
      | nil => exact absurd h0 (by simp [feed, numb, ends, feedA, inside])
      | cons b r =>
        have hb : ¬ (93 = b) := fun e => hw b (List.mem_cons_self ..) e.symm
        exact absurd h0 (by simp [feed, numb, ends, feedA, inside, hb])
    | 10, _, q, _, _, _ => exact absurd (Or.inl rfl) q
    | 11, _, q, _, _, _ => exact absurd (by simp) q
    | 13, _, q, _, _, _ => exact absurd (by simp) q
    | 16, _, q, _, _, _ => exact absurd (by simp) q
    | n + 18, h, _, _, _, _ => exact absurd h (by omega)
def Wp (p : Nat × Mc) : Prop := p.1 = 0 → Wv p.2
theorem wp_err {M : Mc} {x : Nat} (h : x ≠ 0) : Wp (x, M) := fun e => absurd e h
theorem wp_st {M : Mc} (h : M.st ≠ 17) : Wp (0, M) := fun _ e => absurd e h
theorem wp_ite' {c : Prop} [Decidable c] {p q : Nat × Mc} (h1 : c → Wp p) (h2 : ¬ c → Wp q) : Wp (if c then p else q) := by
  by_cases h : c
  · rw [if_pos h]; exact h1 h
  · rw [if_neg h]; exact h2 h
theorem next_wp (M : Mc) (c i : Nat) : Wp (next M c i) := by
  unfold next
  cases M.stack with
  | nil => exact wp_err (by decide)
  | cons b S => exact wp_ite' (fun _ => wp_st (by simp [one])) (fun _ => wp_ite' (fun _ => wp_st (by simp [one])) (fun _ => wp_ite' (fun _ => wp_st (by simp [one])) (fun _ => wp_err (by decide))))
theorem begin_wp (M : Mc) (c i : Nat) : Wp (begin' M c i) := by
  unfold begin'
  refine wp_ite' (fun _ => wp_ite' (fun _ => wp_err (by decide)) (fun _ => wp_st (by simp only; split <;> decide))) (fun _ => wp_ite' (fun _ => wp_st (by simp)) (fun _ => wp_ite' (fun _ => wp_st (by simp)) (fun _ => wp_ite' (fun _ => wp_st (by simp)) (fun _ => wp_ite' (fun _ => wp_st (by simp)) (fun _ => wp_ite' (fun _ _ _ => by simp) (fun _ => wp_ite' (fun _ _ _ => by simp) (fun _ => wp_ite' (fun _ _ _ => by simp) (fun _ => wp_err (by decide)))))))))
theorem atom_st (M : Mc) (i : Nat) : (atom M i).st ≠ 17 := by simp only [atom]; split <;> decide
theorem inside_wp (M : Mc) (c i : Nat) (h : Wv M) (h17 : M.st ≤ 17) (hs : M.st = 6 ∨ M.st = 7 ∨ M.st = 8 ∨ M.st = 17) : Wp (inside M c i) := by
  unfold inside
  refine wp_ite' (fun q => wp_ite' (fun _ => wp_err (by decide)) (fun _ => wp_ite' (fun _ => wp_st (atom_st _ _)) (fun _ => wp_ite' (fun _ => wp_st (by simp)) (fun _ => wp_st (by omega))))) (fun _ => wp_ite' (fun _ => wp_ite' (fun _ => wp_st (by simp)) (fun _ => wp_ite' (fun _ => wp_st (by simp)) (fun _ => wp_err (by decide)))) (fun _ => wp_ite' (fun _ => wp_ite' (fun _ => wp_st (by simp only; split <;> decide)) (fun _ => wp_err (by decide))) (fun _ => ?_)))
  cases hl : M.left with
  | nil => exact wp_err (by decide)
  | cons b r => exact wp_ite' (fun _ => wp_err (by decide)) (fun _ => wp_ite' (fun _ => wp_st (atom_st _ _)) (fun _ _ e x hx => h e x (by rw [hl]; exact List.mem_cons_of_mem _ hx)))
theorem feed_wp (M : Mc) (c i : Nat) (h : Wv M) (h17 : M.st ≤ 17) : Wp (feed M c i) := by
  unfold feed
  refine wp_ite' (fun q => wp_st (numb_ge q).2.2.1) (fun _ => ?_)
  have hw : Wv (if ends M.st then atom M i else M) ∧ (if ends M.st then atom M i else M).st ≤ 17 := by
    split
    · exact ⟨fun e => absurd e (atom_st _ _), by simp only [atom]; split <;> decide⟩
    · exact ⟨h, h17⟩
  generalize (if ends M.st then atom M i else M) = M1 at *
  unfold feedA
  refine wp_ite' (fun q => inside_wp _ _ _ hw.1 hw.2 q) (fun _ => wp_ite' (fun _ => wp_err (by decide)) (fun _ => wp_ite' (fun _ _ => hw.1) (fun _ => wp_ite' (fun _ => begin_wp _ _ _) (fun _ => wp_ite' (fun _ => wp_ite' (fun _ => next_wp _ _ _) (fun _ => begin_wp _ _ _)) (fun _ => wp_ite' (fun _ => wp_ite' (fun _ => next_wp _ _ _) (fun _ => wp_ite' (fun _ => wp_err (by decide)) (fun _ => wp_st (by simp)))) (fun _ => wp_ite' (fun _ => wp_ite' (fun _ => wp_err (by decide)) (fun _ => wp_st (by simp [one]))) (fun _ => next_wp _ _ _)))))))
theorem run_last {f : Nat → Nat} (hf : ∀ j, f j < 256) : ∀ (k i : Nat) (M : Mc), Wv M → Iv M i → f (i + k) = 93 → (run f (k + 1) i M).2.2 = 0 → ∃ l, (run f (k + 1) i M).1 = l ++ [(2, i + k, 1)]
  | 0, i, M, hw, hv, h93, e => by
    unfold run at e ⊢
    rw [Nat.add_zero] at h93 ⊢
    rw [h93] at e ⊢
    by_cases h0 : (feed M 93 i).1 = 0
    · rw [if_pos h0] at e ⊢
      simp only [run] at e ⊢
      have h5 : ends (feed M 93 i).2.st = true ∨ (feed M 93 i).2.st = 5 := by
        unfold fin' finA at e
        cases he : ends (feed M 93 i).2.st with
        | true => exact Or.inl rfl
        | false =>
          right
          rw [he] at e
          simp only [Bool.false_eq_true, if_false] at e
          split at e
          · cases e
          · rename_i q
            apply Decidable.byContradiction
            intro c
            exact q (Or.inl c)
      obtain ⟨l, h1, h2⟩ := last_feed hw h0 h5 hv.s
      refine ⟨l, ?_⟩
      show _ = l ++ [(2, i, 1)]
      rw [← h1]
      have hne : ends (feed M 93 i).2.st = false := by rw [h2]; rfl
      unfold fin' finA at e ⊢
      rw [hne] at e ⊢
      simp only [Bool.false_eq_true, if_false] at e ⊢
      split at e
      · cases e
      · rename_i q; rw [if_neg q]
    · rw [if_neg h0] at e
      exact absurd e h0
  | k + 1, i, M, hw, hv, h93, e => by
    rw [run] at e ⊢
    by_cases h0 : (feed M (f i) i).1 = 0
    · rw [if_pos h0] at e ⊢
      have := run_last hf k (i + 1) _ (feed_wp M (f i) i hw hv.s h0) (feed_iv (hf i) hv h0) (by rw [← h93]; congr 1; omega) e
      rwa [show i + 1 + k = i + (k + 1) by omega] at this
    · rw [if_neg h0] at e
      exact absurd e h0
theorem ans_last {f : Nat → Nat} (hf : ∀ j, f j < 256) {k : Nat} (h : f k = 93) (e : (ans f (k + 1)).2.2 = 0) : ∃ l, (ans f (k + 1)).1 = l ++ [(2, k, 1)] := by
  have := run_last hf k 0 M0 (fun e => absurd e (by decide)) iv0 (by rw [Nat.zero_add]; exact h) e
  rw [Nat.zero_add] at this
  exact this

/-! An append to a row that is full. -/
theorem append_full {ops : Array Oper} {rest : List Oper} {o : Oper} {a : Act} {Q : Exit → Act → World → Prop} {w : World} (hgd : o.guard = none) (s x : Operand)
    (ho : o.op = .call { callee := .builtin .append, args := #[s, x], argTypes := #[22, 22] }) (b : Addr) (L M : List Nat) (cap : Nat) (ad : Addr) (hs : a.eval s = .slice (some b) L.length L.length) (hcell : ∀ j u, (rowL L)[j]? = some u → w.cell? (b.add j) = some u)
    (hx : a.eval x = .slice (some ad) M.length cap) (hc : ∀ j u, (rowL M)[j]? = some u → w.cell? (ad.add j) = some u) (h0 : 0 < M.length) (hn : L.length ≤ 100000) (hm : M.length ≤ 100000)
    (h : ∀ v' w', w'.ownsRow w.heap.size 5 1 v' (L ++ M).length (rowL (L ++ M)) → w.grownBy w' none → wpList Try.prog ops Q rest (a.put o.dst v') w') : wpList Try.prog ops Q (o :: rest) a w := by
  obtain ⟨i0, hi, hz0, hz1, hz2⟩ := info_parts info5
  have hlen : (rowL L ++ rowL M).length = (L ++ M).length * 1 := by rw [← rowL_app, rowL_len, Nat.mul_one]
  have hr := run_append_grow (P := Try.prog) w 22 o.type 5 i0 (.int .u8 0) Try.underlying22 hi hz0 b L.length L.length (rowL L) (by rw [rowL_len, hz1, Nat.mul_one]) hcell ad M.length cap (rowL M) (by rw [rowL_len, hz1, Nat.mul_one]) hc (by omega) (by omega) (growslice_fits (by omega) (by rw [hz2]; omega))
  refine Lib.wpList_append_run w hgd s x 22 22 ho _ _ hs hx _ _ hr (h _ _ ?_ ⟨rfl, rfl, rfl, by simp, fun k hk _ => Below.heap_alloc w.drew _ k hk⟩)
  have hge := grownCap_ge w (L.length + M.length) L.length 5
  have hcm : grownCap w (L.length + M.length) L.length 5 ≤ maxLen := grownCap_le_maxLen w (L.length + M.length) L.length 5 (by unfold maxLen; omega)
  rw [rowL_app]
  refine ⟨hlen, .inr ⟨w.heap.size, _, _, ?_, Nat.le_refl _, heap_alloc_new w.drew _, ?_, hcm, ?_, ?_⟩⟩
  · rw [List.length_append]
  · rw [List.length_append]; exact hge
  · simp only [Array.size_append, List.size_toArray, size_zeroCells, rowL_len, Value.cells, List.length_singleton]
    simp
    omega
  · simp only [Array.toList_append, List.append_assoc]
    rw [← List.append_assoc, ← hlen]
    exact List.take_left
theorem append_nil' {ops : Array Oper} {rest : List Oper} {o : Oper} {a : Act} {Q : Exit → Act → World → Prop} {w : World} (hgd : o.guard = none) (s x : Operand)
    (ho : o.op = .call { callee := .builtin .append, args := #[s, x], argTypes := #[22, 22] }) (b : Addr) (n : Nat) (hs : a.eval s = .slice (some b) n n) (hx : a.eval x = .slice none 0 0)
    (h : wpList Try.prog ops Q rest (a.put o.dst (.slice (some b) n n)) w) : wpList Try.prog ops Q (o :: rest) a w := by
  obtain ⟨i0, hi, hz0, hz1, hz2⟩ := info_parts info5
  have hr : (Builtin.append_ #[22, 22] o.type #[.slice (some b) n n, .slice none 0 0]).run Try.prog w = .ok (.slice (some b) n n) w := by
    simp [Builtin.append_, run_underlying Try.underlying22, sizeOf, typeInfo, hi, Builtin.lenOf, Builtin.firstCells, loadCells, storeCells]
  exact Lib.wpList_append_run w hgd s x 22 22 ho _ _ hs hx _ _ hr h
end Go.Proofs.Ytapghnmeiahgoaa
