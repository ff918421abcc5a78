/- Texts put together of the tokens of a text: with blanks by numbers ahead of each, or all on one line. -/
import Derived.Test.YtfakfgmengcndaaKR
namespace Go.Proofs.PlatenTree
open Go Go.RowKit Go.Shelf
open Go.Proofs.PlatenLayout (lay s0 It)
set_option linter.unusedVariables false

theorem tok_ok {s : Bool} {p : List Nat} {P : List Pc} (h : rd s p = some P) : ∃ T, ansL s p = (T, 0, 0) ∧ T.map (pcs p) = P ∧ T.length ≤ p.length ∧ ∀ t ∈ T, t.1 ≤ 6 ∧ 1 ≤ t.2.2 ∧ t.2.1 + t.2.2 ≤ p.length := by
  obtain ⟨T, eT, hP, hb⟩ := ansL_ok h
  have hne := rd_ne h
  refine ⟨T, eT, hP, ?_, fun t ht => ?_⟩
  · have h1 := rd_len h
    have h2 : T.length = P.length := by rw [← hP, List.length_map]
    omega
  · have hm : pcs p t ∈ P := by rw [← hP]; exact List.mem_map_of_mem ht
    obtain ⟨i, hi⟩ := List.getElem?_of_mem hm
    have hk := (around h hi).1.1
    have hn := hne _ hm
    refine ⟨hk.2, ?_, hb t ht⟩
    rcases Nat.eq_zero_or_pos t.2.2 with g | g
    · exact absurd (by show sl p t.2.1 t.2.2 = []; rw [g]; simp [sl]) hn
    · exact g
theorem rd_tot {s : Bool} {p : List Nat} {P : List Pc} (h : rd s p = some P) : tot P ≤ p.length := by
  cases s with
  | true => exact read_tot (show read SM (0, 0) p = some P from h)
  | false => exact read_tot (show read JM j0 p = some P from h)
theorem rd_lt {s : Bool} {p : List Nat} {P : List Pc} (h : rd s p = some P) (hp : ∀ c ∈ p, c < 256) : ∀ t ∈ P, ∀ c ∈ t.2, c < 256 := by
  obtain ⟨T, _, hP, _⟩ := tok_ok h
  intro t ht c hc
  rw [← hP] at ht
  obtain ⟨x, _, rfl⟩ := List.mem_map.1 ht
  exact hp c (List.mem_of_mem_drop (List.mem_of_mem_take hc))
/-- A number's gap; with it how many blanks stand ahead of token k. -/
def xg (m : Nat) (f : Nat → Nat) (k : Nat) : Nat := if k < m then f k % 4 else 0
def gp (s : Bool) (m : Nat) (f : Nat → Nat) (P : List Pc) (k : Nat) : Nat :=
  if s = true ∧ 0 < k ∧ xg m f k = 0 ∧ (P[k]?).map Prod.fst = some 5 then 1 else xg m f k
def bl : List Nat := [32, 10, 9, 13]
def gB (s : Bool) (m : Nat) (f : Nat → Nat) (P : List Pc) (k : Nat) : List Nat := if k < P.length then bl.take (gp s m f P k) else []
theorem xg_lt (m : Nat) (f : Nat → Nat) (k : Nat) : xg m f k ≤ 3 := by
  unfold xg
  split <;> omega
theorem gp_lt (s : Bool) (m : Nat) (f : Nat → Nat) (P : List Pc) (k : Nat) : gp s m f P k ≤ 3 := by
  unfold gp
  split
  · omega
  · exact xg_lt m f k
theorem gB_read {s : Bool} {p : List Nat} {P : List Pc} (m : Nat) (f : Nat → Nat) (h : rd s p = some P) : rd s (pref (gB s m f P) P P.length) = some P := by
  refine blanks_read h (fun k b hb => ?_) (by unfold gB; rw [if_neg (by omega)]) (fun i t hi hs h0 h5 => ?_)
  · unfold gB at hb
    split at hb
    · have := List.mem_of_mem_take hb
      simp only [bl, List.mem_cons, List.not_mem_nil, or_false] at this
      rcases this with rfl | rfl | rfl | rfl <;> rfl
    · cases hb
  · have hl := (List.getElem?_eq_some_iff.1 hi).1
    unfold gB
    rw [if_pos hl]
    have h1 : 0 < gp s m f P i := by
      unfold gp
      split
      · decide
      · rename_i q
        rcases Nat.eq_zero_or_pos (xg m f i) with e | e
        · exact absurd ⟨hs, h0, e, by rw [hi]; show some t.1 = _; rw [h5]⟩ q
        · exact e
    obtain ⟨j, hj⟩ : ∃ j, gp s m f P i = j + 1 := ⟨gp s m f P i - 1, by omega⟩
    rw [hj]
    show 32 :: List.take j [10, 9, 13] ≠ []
    exact List.cons_ne_nil _ _
theorem gB_len (s : Bool) (m : Nat) (f : Nat → Nat) (P : List Pc) (k : Nat) : (gB s m f P k).length ≤ 4 := by
  unfold gB
  split
  · rw [List.length_take]; exact Nat.le_trans (Nat.min_le_right _ _) (by decide)
  · exact Nat.zero_le _
theorem gB_lt (s : Bool) (m : Nat) (f : Nat → Nat) (P : List Pc) (k : Nat) : ∀ c ∈ gB s m f P k, c < 256 := by
  unfold gB
  split
  · intro c hc
    have h : ∀ c ∈ bl, c < 256 := by decide
    exact h c (List.mem_of_mem_take hc)
  · intro c hc; cases hc
theorem pref_tot (g : Nat → List Nat) (hg : ∀ k, (g k).length ≤ 4) (P : List Pc) : ∀ i, (pref g P i).length + tot (P.drop i) ≤ 4 * i + tot P
  | 0 => by show 0 + tot P ≤ _; omega
  | i + 1 => by
    have ih := pref_tot g hg P i
    have h4 := hg i
    rcases Nat.lt_or_ge i P.length with h | h
    · rw [List.drop_eq_getElem_cons h] at ih
      rw [pref_succ g P (List.getElem?_eq_getElem h)]
      have e : tot (P[i] :: P.drop (i + 1)) = P[i].2.length + tot (P.drop (i + 1)) := by unfold tot; rw [List.map_cons, List.sum_cons]
      rw [e] at ih
      simp only [List.length_append]
      omega
    · rw [List.drop_of_length_le (by omega)] at ih ⊢
      show (pref g P i ++ (g i ++ (match P[i]? with | some t => t.2 | none => []))).length + _ ≤ _
      rw [List.getElem?_eq_none h]
      simp only [List.length_append, List.length_nil]
      omega
theorem pref_lt (g : Nat → List Nat) (hg : ∀ k, ∀ c ∈ g k, c < 256) (P : List Pc) (hP : ∀ t ∈ P, ∀ c ∈ t.2, c < 256) : ∀ i, ∀ c ∈ pref g P i, c < 256
  | 0 => fun c hc => by cases hc
  | i + 1 => fun c hc => by
    have hc : c ∈ pref g P i ++ (g i ++ (match P[i]? with | some t => t.2 | none => [])) := hc
    rcases List.mem_append.1 hc with h | h
    · exact pref_lt g hg P hP i c h
    · rcases List.mem_append.1 h with h | h
      · exact hg i c h
      · cases e : P[i]? with
        | none => rw [e] at h; cases h
        | some t => rw [e] at h; exact hP t (List.mem_of_getElem? e) c h
/-- The law's text. -/
def bt (s : Bool) (m : Nat) (f : Nat → Nat) (P : List Pc) (k : Nat) : List Nat := pref (gB s m f P) P k
theorem bt_len {s : Bool} {p : List Nat} {P : List Pc} (m : Nat) (f : Nat → Nat) (hg : Pg s p) (h : rd s p = some P) (k : Nat) (hk : k ≤ P.length) : (bt s m f P k).length ≤ 6000 := by
  have h1 := pref_tot (gB s m f P) (gB_len s m f P) P k
  have h2 := rd_tot h
  have h3 := rd_len h
  have h4 := hg.len
  show (pref (gB s m f P) P k).length ≤ _
  omega
theorem bt_lt {s : Bool} {p : List Nat} {P : List Pc} (m : Nat) (f : Nat → Nat) (hg : Pg s p) (h : rd s p = some P) (k : Nat) : ∀ c ∈ bt s m f P k, c < 256 :=
  pref_lt _ (gB_lt s m f P) P (rd_lt h hg.lt) k
theorem bt_succ {s : Bool} {m : Nat} {f : Nat → Nat} {P : List Pc} {k : Nat} {t : Pc} (h : P[k]? = some t) : bt s m f P (k + 1) = bt s m f P k ++ bl.take (gp s m f P k) ++ t.2 := by
  unfold bt
  rw [pref_succ _ P h, ← List.append_assoc]
  have hl := (List.getElem?_eq_some_iff.1 h).1
  unfold gB
  rw [if_pos hl]
theorem bl_succ {j : Nat} (h : j < 4) : bl.take (j + 1) = bl.take j ++ [bl.getD j 0] := by
  match j, h with
  | 0, _ => rfl
  | 1, _ => rfl
  | 2, _ => rfl
  | 3, _ => rfl
theorem bl_lt (j : Nat) : bl.getD j 0 < 256 := getD_lt (by decide) j
/-- The tokens on one line, one by one. -/
theorem want_app (a b : List Pc) : want (a ++ b) = want a ++ want b := by
  induction a with
  | nil => rfl
  | cons x r ih => show x.2 ++ (if x.1 = 3 ∨ x.1 = 4 then [32] else []) ++ want (r ++ b) = x.2 ++ (if x.1 = 3 ∨ x.1 = 4 then [32] else []) ++ want r ++ want b; rw [ih]; simp only [List.append_assoc]
theorem want_succ {P : List Pc} {k : Nat} {t : Pc} (h : P[k]? = some t) : want (P.take (k + 1)) = want (P.take k) ++ t.2 ++ (if t.1 = 3 ∨ t.1 = 4 then [32] else []) := by
  rw [List.take_add_one, h, want_app]
  show _ ++ (t.2 ++ (if t.1 = 3 ∨ t.1 = 4 then [32] else []) ++ []) = _
  rw [List.append_nil, List.append_assoc]
theorem want_take (P : List Pc) (k : Nat) : (want (P.take k)).length ≤ (want P).length := by
  have : want P = want (P.take k) ++ want (P.drop k) := by rw [← want_app, List.take_append_drop]
  rw [this, List.length_append]
  omega
theorem want_le {p : List Nat} {P : List Pc} (h : rd false p = some P) : (want P).length ≤ 2 * p.length := by
  have h1 := want_len P (fun t ht _ => by
    have := rd_ne h t ht
    rcases Nat.eq_zero_or_pos t.2.length with e | e
    · exact absurd (List.eq_nil_of_length_eq_zero e) this
    · exact e)
  have h2 := rd_tot h
  omega
theorem want_lay {p : List Nat} {P : List Pc} (hg : Pg false p) (h : rd false p = some P) : lay 65536 (itms chn false 0 P) s0 = some (want P) := by
  have h1 := want_le h
  have h2 := hg.len
  exact flat_lay chn chn_le (show read JM j0 p = some P from h) (by omega)
end Go.Proofs.PlatenTree
