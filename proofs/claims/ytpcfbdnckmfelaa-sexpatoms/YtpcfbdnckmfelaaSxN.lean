/- What the laws of sexp want of the document's machine: atoms, strings, lists in one another, two expressions in parentheses. -/
import Derived.Test.YtpcfbdnckmfelaaSxM
namespace Go.Proofs.PlatenSexp
set_option linter.unusedVariables false

/-! How many tokens there are. -/
theorem start_len (M : Sm) (c i : Nat) : (start M c i).2.l.length ≤ M.l.length + 1 := by
  unfold start
  split
  · simp
  · split
    · simp
    · split
      · split <;> simp
      · split
        · simp
        · split <;> simp
theorem feedB_len (M : Sm) (c i : Nat) : (feedB M c i).2.l.length ≤ M.l.length + 1 := by
  unfold feedB
  split
  · simp
  · split
    · simp
    · split
      · simp
      · exact start_len _ _ _
theorem feed_len (M : Sm) (c i : Nat) : (feed M c i).2.l.length ≤ M.l.length + 2 := by
  have e1 := fun X => feedB_len X c i
  unfold feed
  split
  · split
    · simp
    · split <;> simp
  · split
    · simp
    · split
      · split
        · simp
        · exact Nat.le_trans (e1 _) (by simp)
      · split
        · split
          · simp
          · exact Nat.le_trans (e1 _) (by simp)
        · exact Nat.le_trans (e1 _) (by omega)
theorem run_len (f : Nat → Nat) : ∀ (k i : Nat) (M : Sm), (run f k i M).1.length ≤ M.l.length + 2 * k + 1
  | 0, i, M => by
    unfold run fin' finA
    split <;> split <;> simp
  | k + 1, i, M => by
    unfold run
    split
    · have := run_len f k (i + 1) (feed M (f i) i).2
      have := feed_len M (f i) i
      omega
    · simp
theorem ans_len (f : Nat → Nat) (n : Nat) (hn : n ≤ 100000) : (ans f n).1.length ≤ 1000000 := by
  have := run_len f (n - 0) 0 M0
  have e : M0.l.length = 0 := rfl
  unfold ans out
  omega

/-! Texts told by a list. -/
def fOf (L : List Nat) (j : Nat) : Nat := L.getD j 0
/-- From byte j on the text is L. -/
def Lat (f : Nat → Nat) (j : Nat) (L : List Nat) : Prop := ∀ t x, L[t]? = some x → f (j + t) = x
theorem lat_fOf (L : List Nat) : Lat (fOf L) 0 L := by
  intro t x h
  rw [Nat.zero_add]
  unfold fOf
  rw [List.getD_eq_getElem?_getD, h]
  rfl
theorem Lat.left {f : Nat → Nat} {j : Nat} {A B : List Nat} (h : Lat f j (A ++ B)) : Lat f j A := fun t x e => h t x (by
  have : t < A.length := (List.getElem?_eq_some_iff.1 e).1
  rw [List.getElem?_append_left this]; exact e)
theorem Lat.right {f : Nat → Nat} {j : Nat} {A B : List Nat} (h : Lat f j (A ++ B)) : Lat f (j + A.length) B := fun t x e => by
  rw [Nat.add_assoc]
  exact h _ x (by rw [List.getElem?_append_right (by omega), Nat.add_sub_cancel_left]; exact e)
theorem Lat.head {f : Nat → Nat} {j a : Nat} {A : List Nat} (h : Lat f j (a :: A)) : f j = a := h 0 a rfl
theorem Lat.tail {f : Nat → Nat} {j a : Nat} {A : List Nat} (h : Lat f j (a :: A)) : Lat f (j + 1) A := fun t x e => by
  rw [Nat.add_assoc, Nat.add_comm 1 t]
  exact h (t + 1) x e

section
variable {f : Nat → Nat} {n : Nat} {o : Res}
/-! Atoms. -/
theorem atom_all : ∀ (L : List Nat) {dep : Nat} {T : List Tk} {fr j : Nat}, Cur f n o 3 dep T fr j → Lat f j L → (∀ c ∈ L, isP c = true) → j + L.length ≤ n → Cur f n o 3 dep T fr (j + L.length)
  | [], dep, T, fr, j, h, ha, hp, hn => h
  | c :: L, dep, T, fr, j, h, ha, hp, hn => by
    rw [List.length_cons] at hn ⊢
    have h1 := a_more h (by omega) (by rw [ha.head]; exact hp c (by simp))
    have := atom_all L h1 ha.tail (fun x hx => hp x (by simp [hx])) (by omega)
    rwa [show j + 1 + L.length = j + (L.length + 1) by omega] at this
end
theorem ans_atom (L : List Nat) (hp : ∀ c ∈ L, isP c = true) : ans (fOf (97 :: L)) (L.length + 1) = ([(5, 0, L.length + 1)], 0, 0) := by
  have ha := lat_fOf (97 :: L)
  have h0 := begins (fOf (97 :: L)) (L.length + 1)
  have h1 := a_open h0 (Or.inl rfl) (by omega) (by rw [ha.head]; decide) (by rw [ha.head]; decide)
  have h2 := atom_all L h1 ha.tail hp (by omega)
  rw [show 0 + 1 + L.length = L.length + 1 by omega] at h2
  exact top_ok (a_end h2 (Nat.le_refl _) (fun h => absurd h (Nat.lt_irrefl _)))

/-! Strings. -/
def esc (c : Nat) : List Nat := if c = 34 ∨ c = 92 then [92, c] else [c]
def EL (L : List Nat) : List Nat := L.flatMap esc
theorem EL_snoc (L : List Nat) (c : Nat) : EL (L ++ [c]) = EL L ++ esc c := by simp [EL]
theorem EL_cons (c : Nat) (L : List Nat) : EL (c :: L) = esc c ++ EL L := by simp [EL]
theorem EL_len : ∀ L : List Nat, (EL L).length ≤ 2 * L.length
  | [] => Nat.le_refl _
  | c :: L => by
    rw [EL_cons, List.length_append, List.length_cons]
    have := EL_len L
    have : (esc c).length ≤ 2 := by unfold esc; split <;> simp
    omega
section
variable {f : Nat → Nat} {n : Nat} {o : Res}
theorem text_all : ∀ (L : List Nat) {dep : Nat} {T : List Tk} {fr j : Nat}, Cur f n o 4 dep T fr j → Lat f j (EL L) → j + (EL L).length ≤ n → Cur f n o 4 dep T fr (j + (EL L).length)
  | [], dep, T, fr, j, h, ha, hn => h
  | c :: L, dep, T, fr, j, h, ha, hn => by
    rw [EL_cons] at ha hn ⊢
    rw [List.length_append] at hn ⊢
    rw [← Nat.add_assoc] at hn ⊢
    refine text_all L ?_ ha.right hn
    have hl := ha.left
    by_cases hc : c = 34 ∨ c = 92
    · have he : esc c = [92, c] := if_pos hc
      rw [he] at hl hn ⊢
      have hn' : j + 2 + (EL L).length ≤ n := hn
      have h2 := t_any (t_slash h (by omega) hl.head) (show j + 1 < n by omega)
      exact h2
    · have he : esc c = [c] := if_neg hc
      rw [he] at hl hn ⊢
      have hn' : j + 1 + (EL L).length ≤ n := hn
      exact t_plain h (by omega) (by rw [hl.head]; exact fun e => hc (Or.inl e)) (by rw [hl.head]; exact fun e => hc (Or.inr e))
end
theorem ans_text (L : List Nat) : ans (fOf ([34] ++ EL L ++ [34])) ((EL L).length + 2) = ([(5, 0, (EL L).length + 2)], 0, 0) := by
  have ha := lat_fOf ([34] ++ EL L ++ [34])
  have h0 := begins (fOf ([34] ++ EL L ++ [34])) ((EL L).length + 2)
  have h1 := t_open h0 (Or.inl rfl) (by omega) (Lat.head (Lat.left (Lat.left ha)))
  have h2 := text_all L h1 ha.left.right (by omega)
  have hq := ha.right.head
  have hp : 0 + ([34] ++ EL L).length = 0 + 1 + (EL L).length := by rw [List.length_append]; show 0 + (1 + _) = _; omega
  rw [hp] at hq
  have h3 := t_close h2 (by omega) hq
  rw [show 0 + 1 + (EL L).length + 1 = (EL L).length + 2 by omega] at h3
  exact top_ok h3
theorem ans_text_cut (L : List Nat) : ans (fOf ([34] ++ EL L ++ [34])) ((EL L).length + 1) = ([], (EL L).length + 1, 5) := by
  have ha := lat_fOf ([34] ++ EL L ++ [34])
  have h0 := begins (fOf ([34] ++ EL L ++ [34])) ((EL L).length + 1)
  have h1 := t_open h0 (Or.inl rfl) (by omega) (Lat.head (Lat.left (Lat.left ha)))
  have h2 := text_all L h1 ha.left.right (by omega)
  rw [show 0 + 1 + (EL L).length = (EL L).length + 1 by omega] at h2
  exact t_end h2 (Or.inl rfl)

/-! Lists in one another. -/
def op (b : Bool) : List Nat := if b then [39, 40] else [40]
def OL (l : List Bool) : List Nat := l.flatMap op
theorem OL_snoc (l : List Bool) (b : Bool) : OL (l ++ [b]) = OL l ++ op b := by simp [OL]
theorem OL_cons (b : Bool) (l : List Bool) : OL (b :: l) = op b ++ OL l := by simp [OL]
theorem OL_app (a b : List Bool) : OL (a ++ b) = OL a ++ OL b := by simp [OL]
theorem OL_len : ∀ l : List Bool, (OL l).length ≤ 2 * l.length
  | [] => Nat.le_refl _
  | b :: l => by
    rw [OL_cons, List.length_append, List.length_cons]
    have := OL_len l
    have : (op b).length ≤ 2 := by cases b <;> decide
    omega
theorem OL_lt (l : List Bool) : ∀ c ∈ OL l, c < 256 := by
  intro c hc
  obtain ⟨b, _, hb⟩ := List.mem_flatMap.1 hc
  cases b <;> simp [op] at hb <;> omega
section
variable {f : Nat → Nat} {n : Nat} {o : Res}
/-- A quote, if there is one, and the byte behind it. -/
theorem deep_quote {st dep : Nat} {T : List Tk} {j : Nat} (b : Bool) (h : Cv f n o st dep T j) (hs : st = 0 ∨ st = 1) (ha : Lat f j (op b)) (hn : j + (op b).length ≤ n) :
    ∃ st' T', (st' = 0 ∨ st' = 1) ∧ T.length ≤ T'.length ∧ Cv f n o st' dep T' (j + if b then 1 else 0) ∧ f (j + if b then 1 else 0) = 40 ∧ (j + if b then 1 else 0) + 1 = j + (op b).length := by
  cases b with
  | false => exact ⟨st, T, hs, Nat.le_refl _, h, ha.head, rfl⟩
  | true =>
    have hn' : j + 2 ≤ n := hn
    exact ⟨0, _, Or.inl rfl, by simp, q_one h hs (by omega) (Or.inl ha.head), ha.tail.head, rfl⟩
theorem deep_opens : ∀ (l : List Bool) {st dep : Nat} {T : List Tk} {j : Nat}, Cv f n o st dep T j → (st = 0 ∨ st = 1) → Lat f j (OL l) → j + (OL l).length ≤ n → dep + l.length ≤ 512 →
    ∃ st' T', (st' = 0 ∨ st' = 1) ∧ (l ≠ [] → st' = 1) ∧ (l = [] → st' = st ∧ T' = T) ∧ T.length + l.length ≤ T'.length ∧ Cv f n o st' (dep + l.length) T' (j + (OL l).length)
  | [], st, dep, T, j, h, hs, ha, hn, hd => ⟨st, T, hs, fun e => absurd rfl e, fun _ => ⟨rfl, rfl⟩, Nat.le_refl _, h⟩
  | b :: l, st, dep, T, j, h, hs, ha, hn, hd => by
    rw [OL_cons] at ha hn ⊢
    rw [List.length_append] at hn ⊢
    rw [List.length_cons] at hd ⊢
    obtain ⟨s1, T1, hs1, hT1, h1, hc, hl⟩ := deep_quote b h hs ha.left (by omega)
    have h2 := l_open h1 hs1 (by omega) hc (by omega)
    rw [hl] at h2
    obtain ⟨s3, T3, hs3, hs4, hs5, hT3, h3⟩ := deep_opens l h2 (Or.inr rfl) ha.right (by omega) (by omega)
    refine ⟨s3, T3, hs3, fun _ => ?_, fun e => (by cases e), ?_, ?_⟩
    · cases l with
      | nil => exact (hs5 rfl).1
      | cons x r => exact hs4 (by simp)
    · rw [List.length_append] at hT3; simp at hT3; omega
    · rw [show dep + (l.length + 1) = dep + 1 + l.length by omega, ← Nat.add_assoc]
      exact h3
theorem deep_closes : ∀ (m : Nat) {d : Nat} {T : List Tk} {j : Nat}, Cv f n o 1 (d + m) T j → 0 < d + m → (∀ t, t < m → f (j + t) = 41) → j + m ≤ n →
    ∃ T', T'.length = T.length + m ∧ Cv f n o (aft d) d T' (j + m) ∨ d = 0 ∧ m = 0
  | 0, d, T, j, h, hd, ha, hn => by
    refine ⟨T, Or.inl ⟨rfl, ?_⟩⟩
    have : aft d = 1 := by unfold aft; rw [if_neg (by omega)]
    rw [this]
    exact h
  | m + 1, d, T, j, h, hd, ha, hn => by
    have h1 := l_close h (by omega) (by have := ha 0 (by omega); simpa using this)
    rw [show d + (m + 1) - 1 = d + m by omega] at h1
    by_cases hz : d + m = 0
    · obtain ⟨rfl, rfl⟩ : d = 0 ∧ m = 0 := by omega
      exact ⟨_, Or.inl ⟨by simp, h1⟩⟩
    · have e1 : aft (d + m) = 1 := by unfold aft; rw [if_neg hz]
      rw [e1] at h1
      obtain ⟨T', h2 | h2⟩ := deep_closes m h1 (by omega) (fun t ht => by have := ha (t + 1) (by omega); rwa [show j + (t + 1) = j + 1 + t by omega] at this) (by omega)
      · refine ⟨T', Or.inl ⟨by rw [h2.1]; simp; omega, ?_⟩⟩
        rw [show j + (m + 1) = j + 1 + m by omega]
        exact h2.2
      · exact absurd h2 (by omega)
end
/-- The text of SexpDeep: the opening ones, m closing ones. -/
def PL (l : List Bool) (m : Nat) : List Nat := OL l ++ List.replicate m 41
theorem PL_len (l : List Bool) (m : Nat) : (PL l m).length = (OL l).length + m := by simp [PL]
theorem PL_succ (l : List Bool) (m : Nat) : PL l (m + 1) = PL l m ++ [41] := by
  unfold PL
  rw [List.replicate_succ', List.append_assoc]
theorem PL_lt (l : List Bool) (m : Nat) : ∀ c ∈ PL l m, c < 256 := by
  intro c hc
  unfold PL at hc
  rcases List.mem_append.1 hc with h | h
  · exact OL_lt l c h
  · rw [(List.mem_replicate.1 h).2]; decide
/-- Where the first list is that is too deep. -/
def fst (l : List Bool) : Nat := (OL (l.take 512)).length + if l.getD 512 false then 1 else 0
theorem fst_snoc (l : List Bool) (b : Bool) (h : 512 < l.length) : fst (l ++ [b]) = fst l := by
  unfold fst
  rw [List.take_append_of_le_length (by omega), List.getD_eq_getElem?_getD, List.getD_eq_getElem?_getD, List.getElem?_append_left h]
theorem fst_now (l : List Bool) (b : Bool) (h : l.length = 512) : fst (l ++ [b]) = (OL l).length + if b then 1 else 0 := by
  unfold fst
  rw [List.take_append_of_le_length (by omega), List.take_of_length_le (by omega), List.getD_eq_getElem?_getD, List.getElem?_append_right (by omega), h]
  rfl
theorem ans_deep (l : List Bool) (m : Nat) (hl : 512 < l.length) : ans (fOf (PL l m)) (PL l m).length = ([], fst l, 6) := by
  have hp := PL_len l m
  have ha := lat_fOf (PL l m)
  have hc := begins (fOf (PL l m)) (PL l m).length
  generalize ans (fOf (PL l m)) (PL l m).length = o at *
  generalize fOf (PL l m) = f at *
  generalize (PL l m).length = n at *
  unfold PL at ha
  obtain ⟨b, r, hb⟩ : ∃ b r, l.drop 512 = b :: r := by
    cases e : l.drop 512 with
    | nil => exact absurd (List.drop_eq_nil_iff.1 e) (by omega)
    | cons b r => exact ⟨b, r, rfl⟩
  have hsplit : l = l.take 512 ++ (b :: r) := by rw [← hb, List.take_append_drop]
  have hlt : (l.take 512).length = 512 := by rw [List.length_take]; omega
  have hOL : OL l = OL (l.take 512) ++ (op b ++ OL r) := by rw [← OL_cons, ← OL_app, ← hsplit]
  have hb2 : l.getD 512 false = b := by
    rw [List.getD_eq_getElem?_getD, hsplit, List.getElem?_append_right (by omega), hlt]
    rfl
  have hlen : (OL l).length = (OL (l.take 512)).length + ((op b).length + (OL r).length) := by rw [hOL]; simp
  rw [hOL] at ha
  obtain ⟨s1, T1, hs1, _, _, _, h1⟩ := deep_opens (l.take 512) hc (Or.inl rfl) ha.left.left (by omega) (by omega)
  obtain ⟨s2, T2, hs2, _, h2, hc2, hl2⟩ := deep_quote b h1 hs1 ha.left.right.left (by omega)
  have := l_deep h2 hs2 (by omega) hc2 (by omega)
  rw [this]
  unfold fst
  rw [hb2]
  simp
theorem ans_lev (l : List Bool) (hl : l.length ≤ 512) (h0 : l ≠ []) : ∃ T, ans (fOf (PL l l.length)) (PL l l.length).length = (T, 0, 0) ∧ 2 * l.length ≤ T.length := by
  have hp := PL_len l l.length
  have ha := lat_fOf (PL l l.length)
  have hc := begins (fOf (PL l l.length)) (PL l l.length).length
  generalize ans (fOf (PL l l.length)) (PL l l.length).length = o at *
  generalize fOf (PL l l.length) = f at *
  generalize (PL l l.length).length = n at *
  unfold PL at ha
  have hpos : 0 < l.length := List.length_pos_iff.2 h0
  obtain ⟨s1, T1, hs1, e1, _, hT1, h1⟩ := deep_opens l hc (Or.inl rfl) ha.left (by omega) (by omega)
  rw [e1 h0] at h1
  have hr := ha.right
  obtain ⟨T2, h2 | h2⟩ := deep_closes l.length (d := 0) h1 (by omega) (fun t ht => hr t 41 (by rw [List.getElem?_replicate, if_pos ht])) (by omega)
  · rw [show 0 + (OL l).length + l.length = n by omega] at h2
    refine ⟨T2, top_ok h2.2, ?_⟩
    have : ([] : List Tk).length = 0 := rfl
    omega
  · exact absurd h2.2 (by omega)
theorem ans_nil (f : Nat → Nat) : ans f 0 = ([], 0, 5) := rfl

/-! Expressions in parentheses. -/
def sh (s : Nat) (l : List Tk) : List Tk := l.map fun t => (t.1, t.2.1 + s, t.2.2)
theorem sh_app (s : Nat) (a b : List Tk) : sh s (a ++ b) = sh s a ++ sh s b := by simp [sh]
theorem sh_len (s : Nat) (a : List Tk) : (sh s a).length = a.length := by simp [sh]
/-- The machine within a list stands as the machine alone does. -/
structure Emb (s : Nat) (pre : List Tk) (M M' : Sm) : Prop where
  dep : M'.dep = M.dep + 1
  l : M'.l = pre ++ sh s M.l
  st : (M.st = 0 ∧ (M'.st = 0 ∨ M'.st = 1)) ∨ (M.st = 1 ∧ M'.st = 1 ∧ M.dep ≠ 0) ∨ (M.st = 6 ∧ M'.st = 1 ∧ M.dep = 0) ∨ (2 ≤ M.st ∧ M.st ≤ 5 ∧ M'.st = M.st ∧ M'.fr = M.fr + s)
theorem emb_aft {s : Nat} {pre : List Tk} {d fr fr' : Nat} {a a' : List Tk} (h : a' = pre ++ sh s a) : Emb s pre ⟨aft d, d, fr, a⟩ ⟨aft (d + 1), d + 1, fr', a'⟩ := by
  refine ⟨rfl, h, ?_⟩
  have e : aft (d + 1) = 1 := by unfold aft; rw [if_neg (by omega)]
  rcases aft_cases d with ⟨e1, e2⟩ | ⟨e1, e2⟩
  · exact Or.inr (Or.inr (Or.inl ⟨e1, e, e2⟩))
  · exact Or.inr (Or.inl ⟨e1, e, e2⟩)
theorem emb_start {s : Nat} {pre : List Tk} {M M' : Sm} {c i : Nat} (hd : M'.dep = M.dep + 1) (hl : M'.l = pre ++ sh s M.l) (h5 : M.dep < 511) (h : (start M c i).1 = 0) :
    (start M' c (i + s)).1 = 0 ∧ Emb s pre (start M c i).2 (start M' c (i + s)).2 := by
  unfold start at h ⊢
  split at h
  · rename_i q
    rw [if_pos q, if_pos q]
    exact ⟨rfl, hd, by simp [hl, sh], Or.inl ⟨rfl, Or.inl rfl⟩⟩
  · rename_i q
    rw [if_neg q, if_neg q]
    split at h
    · rename_i q2
      rw [if_pos q2, if_pos q2]
      exact ⟨rfl, hd, hl, Or.inr (Or.inr (Or.inr ⟨Nat.le_refl _, (by decide : 2 ≤ 5), rfl, rfl⟩))⟩
    · rename_i q2
      rw [if_neg q2, if_neg q2]
      split at h
      · rename_i q3
        rw [if_pos q3, if_pos q3, if_neg (by omega), if_neg (by omega)]
        exact ⟨rfl, by simp [hd], by simp [hl, sh], Or.inr (Or.inl ⟨rfl, rfl, Nat.succ_ne_zero _⟩)⟩
      · rename_i q3
        rw [if_neg q3, if_neg q3]
        split at h
        · rename_i q4
          rw [if_pos q4, if_pos q4]
          exact ⟨rfl, hd, hl, Or.inr (Or.inr (Or.inr ⟨(by decide : 2 ≤ 4), (by decide : 4 ≤ 5), rfl, rfl⟩))⟩
        · rename_i q4
          rw [if_neg q4, if_neg q4]
          split at h
          · rename_i q5
            rw [if_pos q5, if_pos q5]
            exact ⟨rfl, hd, hl, Or.inr (Or.inr (Or.inr ⟨(by decide : 2 ≤ 3), (by decide : 3 ≤ 5), rfl, rfl⟩))⟩
          · simp at h
theorem emb_feedB {s : Nat} {pre : List Tk} {M M' : Sm} {c i : Nat} (E : Emb s pre M M') (h5 : M.dep < 511) (hst : M.st = 0 ∨ M.st = 1 ∨ M.st = 6) (h : (feedB M c i).1 = 0) :
    (feedB M' c (i + s)).1 = 0 ∧ Emb s pre (feedB M c i).2 (feedB M' c (i + s)).2 := by
  unfold feedB at h ⊢
  split at h
  · rename_i q
    rw [if_pos q, if_pos q]
    exact ⟨rfl, E⟩
  · rename_i q
    rw [if_neg q, if_neg q]
    split at h
    · simp at h
    · rename_i q2
      rw [if_neg q2]
      have h6 : M'.st ≠ 6 := by rcases E.st with e | e | e | e <;> omega
      rw [if_neg h6]
      split at h
      · rename_i q3
        have h1 : M'.st = 1 := by rcases E.st with e | e | e | e <;> omega
        have hd0 : M.dep ≠ 0 := by rcases E.st with e | e | e | e <;> omega
        rw [if_pos q3, if_pos ⟨q3.1, h1⟩]
        refine ⟨rfl, ?_⟩
        have e1 : M'.dep - 1 = (M.dep - 1) + 1 := by rw [E.dep]; omega
        rw [e1]
        exact emb_aft (by rw [E.l]; simp [sh])
      · rename_i q3
        have q4 : ¬ (c = 41 ∧ M'.st = 1) := by
          rintro ⟨rfl, e⟩
          have : M.st = 0 := by
            rcases E.st with e | e | e | e
            · exact e.1
            · exact absurd ⟨rfl, e.1⟩ q3
            · exact absurd e.1 q2
            · omega
          revert h
          simp [start, isP]
        rw [if_neg q3, if_neg q4]
        exact emb_start E.dep E.l h5 h
theorem emb_feed {s : Nat} {pre : List Tk} {M M' : Sm} {c i : Nat} (E : Emb s pre M M') (h5 : M.dep < 511) (hfr : M.fr ≤ i) (h : (feed M c i).1 = 0) :
    (feed M' c (i + s)).1 = 0 ∧ Emb s pre (feed M c i).2 (feed M' c (i + s)).2 := by
  have hd := E.dep
  have hl := E.l
  have hcase : M.st = 0 ∨ M.st = 1 ∨ M.st = 6 ∨ M.st = 2 ∨ M.st = 3 ∨ M.st = 4 ∨ M.st = 5 := by rcases E.st with e | e | e | e <;> omega
  have hsame : 2 ≤ M.st → M.st ≤ 5 → M'.st = M.st ∧ M'.fr = M.fr + s := fun a b => by rcases E.st with e | e | e | e <;> omega
  have hother : M.st = 0 ∨ M.st = 1 ∨ M.st = 6 → M'.st = 0 ∨ M'.st = 1 := fun a => by rcases E.st with e | e | e | e <;> omega
  rcases hcase with e | e | e | e | e | e | e
  · have := hother (Or.inl e)
    have e1 : feed M c i = feedB M c i := by simp [feed, e]
    have e2 : feed M' c (i + s) = feedB M' c (i + s) := by rcases this with q | q <;> simp [feed, q]
    rw [e1] at h ⊢
    rw [e2]
    exact emb_feedB E h5 (Or.inl e) h
  · have := hother (Or.inr (Or.inl e))
    have e1 : feed M c i = feedB M c i := by simp [feed, e]
    have e2 : feed M' c (i + s) = feedB M' c (i + s) := by rcases this with q | q <;> simp [feed, q]
    rw [e1] at h ⊢
    rw [e2]
    exact emb_feedB E h5 (Or.inr (Or.inl e)) h
  · have := hother (Or.inr (Or.inr e))
    have e1 : feed M c i = feedB M c i := by simp [feed, e]
    have e2 : feed M' c (i + s) = feedB M' c (i + s) := by rcases this with q | q <;> simp [feed, q]
    rw [e1] at h ⊢
    rw [e2]
    exact emb_feedB E h5 (Or.inr (Or.inr e)) h
  · obtain ⟨e', f'⟩ := hsame (by omega) (by omega)
    rw [e] at e'
    by_cases hc : c = 64
    · simp [feed, e, e', hc]
      exact ⟨hd, by simp [hl, f', sh]; omega, Or.inl ⟨rfl, Or.inl rfl⟩⟩
    · have e1 : feed M c i = feedB ⟨0, M.dep, M.fr, M.l ++ [(6, M.fr, i - M.fr)]⟩ c i := by simp [feed, e, hc]
      have e2 : feed M' c (i + s) = feedB ⟨0, M'.dep, M'.fr, M'.l ++ [(6, M'.fr, i + s - M'.fr)]⟩ c (i + s) := by simp [feed, e', hc]
      rw [e1] at h ⊢
      rw [e2]
      exact emb_feedB ⟨hd, by simp [hl, f', sh]; omega, Or.inl ⟨rfl, Or.inl rfl⟩⟩ h5 (Or.inl rfl) h
  · obtain ⟨e', f'⟩ := hsame (by omega) (by omega)
    rw [e] at e'
    by_cases hc : isP c = true
    · simp only [feed, e, e', hc]
      exact ⟨rfl, E⟩
    · have e1 : feed M c i = feedB ⟨aft M.dep, M.dep, M.fr, M.l ++ [(5, M.fr, i - M.fr)]⟩ c i := by simp [feed, e, hc]
      have e2 : feed M' c (i + s) = feedB ⟨aft M'.dep, M'.dep, M'.fr, M'.l ++ [(5, M'.fr, i + s - M'.fr)]⟩ c (i + s) := by simp [feed, e', hc]
      rw [e1] at h ⊢
      rw [e2, hd]
      exact emb_feedB (emb_aft (by simp [hl, f', sh]; omega)) h5 (by rcases aft_cases M.dep with q | q <;> simp [q.1]) h
  · obtain ⟨e', f'⟩ := hsame (by omega) (by omega)
    rw [e] at e'
    by_cases hc : c = 34
    · simp only [feed, e, e', hc, if_true]
      rw [hd]
      exact ⟨by trivial, emb_aft (by simp [hl, f', sh]; omega)⟩
    · by_cases hc2 : c = 92
      · simp only [feed, e, e', hc2, if_true]
        exact ⟨by trivial, hd, hl, Or.inr (Or.inr (Or.inr ⟨(by decide : 2 ≤ 5), Nat.le_refl _, rfl, f'⟩))⟩
      · simp only [feed, e, e', hc, hc2, if_true, if_false]
        exact ⟨by trivial, E⟩
  · obtain ⟨e', f'⟩ := hsame (by omega) (by omega)
    rw [e] at e'
    simp only [feed, e, e']
    exact ⟨rfl, hd, hl, Or.inr (Or.inr (Or.inr ⟨(by decide : 2 ≤ 4), (by decide : 4 ≤ 5), rfl, f'⟩))⟩
end Go.Proofs.PlatenSexp
