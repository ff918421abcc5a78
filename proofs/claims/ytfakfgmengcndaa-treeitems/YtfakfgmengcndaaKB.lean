/- A reader that takes byte by byte, without places: what is written with other blanks is read as the same tokens. -/
import Derived.Test.YtfakfgmengcndaaKA
namespace Go.Proofs.PlatenTree
set_option linter.unusedVariables false

/-- A token's kind and its bytes. -/
abbrev Pc := Nat × List Nat
def isB (c : Nat) : Bool := decide (c = 32) || decide (c = 9) || decide (c = 10) || decide (c = 13)
/-- What a byte does. -/
inductive Rt (C : Type) where
  | bad
  | blank
  | more (c : C)
  | start (c : C)
  | whole (k : Nat) (c : C)
  | last (k : Nat) (c : C)
structure Mach where
  C : Type
  mid : C → Bool
  good : C → Bool
  kd : C → Nat
  adj : Bool
  f0 : C → Nat → Rt C
  f1 : C → Nat → Option (Rt C)
  lz : C → Option (Nat × C)
abbrev St (M : Mach) := M.C × List Nat × List Pc
def app (M : Mach) (r : Rt M.C) (s : St M) (b : Nat) : Option (St M) :=
  match r with
  | .bad => none
  | .blank => some s
  | .more c => some (c, s.2.1 ++ [b], s.2.2)
  | .start c => some (c, [b], s.2.2)
  | .whole k c => some (c, [], s.2.2 ++ [(k, [b])])
  | .last k c => some (c, [], s.2.2 ++ [(k, s.2.1 ++ [b])])
def fd (M : Mach) (s : St M) (b : Nat) : Option (St M) :=
  if M.mid s.1 = true then
    (match M.f1 s.1 b with
     | some r => app M r s b
     | none => match M.lz s.1 with
       | some kc => app M (M.f0 kc.2 b) (kc.2, [], s.2.2 ++ [(kc.1, s.2.1)]) b
       | none => none)
  else app M (M.f0 s.1 b) s b
def run (M : Mach) : List Nat → St M → Option (St M)
  | [], s => some s
  | b :: r, s => match fd M s b with
    | some s' => run M r s'
    | none => none
def fin (M : Mach) (s : St M) : Option (List Pc) :=
  if M.mid s.1 = true then
    (match M.lz s.1 with
     | some kc => if M.good kc.2 = true then some (s.2.2 ++ [(kc.1, s.2.1)]) else none
     | none => none)
  else if M.good s.1 = true then some s.2.2 else none
structure Ok (M : Mach) : Prop where
  lzm : ∀ c k c', M.lz c = some (k, c') → M.mid c = true ∧ M.mid c' = false ∧ k = M.kd c
  s0 : ∀ c b c', M.f0 c b = .start c' → M.mid c' = true
  w0 : ∀ c b k c', M.f0 c b = .whole k c' → M.mid c' = false
  m0 : ∀ c b c', M.f0 c b ≠ .more c'
  l0 : ∀ c b k c', M.f0 c b ≠ .last k c'
  m1 : ∀ c b c', M.f1 c b = some (.more c') → M.mid c' = true ∧ M.kd c' = M.kd c
  l1 : ∀ c b k c', M.f1 c b = some (.last k c') → M.mid c' = false ∧ k = M.kd c
  b1 : ∀ c b, M.f1 c b ≠ some .blank
  s1 : ∀ c b c', M.f1 c b ≠ some (.start c')
  w1 : ∀ c b k c', M.f1 c b ≠ some (.whole k c')
  bl : ∀ c b, isB b = true → M.mid c = false → M.f0 c b = .blank
  bz : ∀ c b kc, isB b = true → M.lz c = some kc → M.f1 c b = none
  nb : ∀ c b, M.f0 c b = .blank → isB b = true
  sep : ∀ c k c' b, M.lz c = some (k, c') → M.f1 c b ≠ none → M.f0 c' b = .bad ∨ isB b = true ∨ (M.adj = true ∧ k = 5 ∧ ∃ c'', M.f0 c' b = .start c'' ∧ M.kd c'' = 5)
/-- As good as between tokens: there, or where a token may end. -/
def Like (M : Mach) (u : St M) (c : M.C) (P : List Pc) : Prop := u = (c, [], P) ∨ ∃ c0 b0 P0 k, u = (c0, b0, P0) ∧ M.lz c0 = some (k, c) ∧ P = P0 ++ [(k, b0)]
def lastk (P : List Pc) : Nat := match P.getLast? with | some x => x.1 | none => 0
theorem lastk_snoc (P : List Pc) (x : Pc) : lastk (P ++ [x]) = x.1 := by simp [lastk]
def glue (g : Nat → List Nat) : Nat → List Pc → List Nat
  | k, [] => g k
  | k, x :: r => g k ++ (x.2 ++ glue g (k + 1) r)
def Aj (a : Bool) (g : Nat → List Nat) : Nat → Nat → List Pc → Prop
  | pk, k, [] => True
  | pk, k, x :: r => (a = true → pk = 5 → x.1 = 5 → g k ≠ []) ∧ Aj a g x.1 (k + 1) r
section
variable {M : Mach} (hM : Ok M) {g : Nat → List Nat} (hg : ∀ k, ∀ b ∈ g k, isB b = true)
theorem run_cons (b : Nat) (r : List Nat) (s : St M) : run M (b :: r) s = match fd M s b with | some s' => run M r s' | none => none := rfl
theorem run_app (p q : List Nat) (s : St M) : run M (p ++ q) s = match run M p s with | some s' => run M q s' | none => none := by
  induction p generalizing s with
  | nil => rfl
  | cons b r ih =>
    show run M (b :: (r ++ q)) s = _
    rw [run_cons, run_cons]
    cases fd M s b with
    | none => rfl
    | some s' => exact ih s'
include hM
theorem like_fin {u : St M} {c : M.C} {P : List Pc} (h : Like M u c P) (hm : M.mid c = false) (hg : M.good c = true) : fin M u = some P := by
  rcases h with rfl | ⟨c0, b0, P0, k, rfl, hz, rfl⟩
  · simp [fin, hm, hg]
  · simp [fin, (hM.lzm _ _ _ hz).1, hz, hg]
theorem like_fd {u : St M} {c : M.C} {P : List Pc} {b : Nat} (h : Like M u c P) (hm : M.mid c = false) (hu : u = (c, [], P) ∨ ∀ c0 b0 P0, u = (c0, b0, P0) → M.f1 c0 b = none) : fd M u b = fd M (c, [], P) b := by
  rcases h with rfl | ⟨c0, b0, P0, k, rfl, hz, rfl⟩
  · rfl
  · have h1 : M.f1 c0 b = none := by
      rcases hu with e | e
      · have := (hM.lzm _ _ _ hz).1
        injection e with e _
        rw [e, hm] at this
        cases this
      · exact e _ _ _ rfl
    simp [fd, (hM.lzm _ _ _ hz).1, hz, h1, hm]
theorem blanks_run {bs : List Nat} (hb : ∀ b ∈ bs, isB b = true) {c : M.C} {P : List Pc} (hm : M.mid c = false) : ∀ u, Like M u c P → ∃ u', run M bs u = some u' ∧ Like M u' c P ∧ (bs ≠ [] → u' = (c, [], P)) ∧ (bs = [] → u' = u) := by
  induction bs with
  | nil => exact fun u h => ⟨u, rfl, h, fun e => absurd rfl e, fun _ => rfl⟩
  | cons b r ih =>
    intro u h
    have hbb := hb b (by simp)
    have e : fd M u b = some (c, [], P) := by
      rw [like_fd hM h hm ?_]
      · simp [fd, hm, hM.bl _ _ hbb hm, app]
      · rcases h with e | ⟨c0, b0, P0, k, e, hz, _⟩
        · exact Or.inl e
        · refine Or.inr fun c1 b1 P1 e1 => ?_
          rw [e] at e1
          injection e1 with e1 _
          rw [← e1]
          exact hM.bz _ _ _ hbb hz
    obtain ⟨u', h1, h2, h3, h4⟩ := ih (fun x hx => hb x (by simp [hx])) (c, [], P) (Or.inl rfl)
    refine ⟨u', ?_, h2, fun _ => ?_, fun e => by cases e⟩
    · unfold run; rw [e]; exact h1
    · cases r with
      | nil => exact h4 rfl
      | cons x r => exact h3 (by simp)
/-- A byte that begins a token, ahead of which stands a gap. -/
theorem gap_fd {u : St M} {c : M.C} {P : List Pc} {b : Nat} {bs : List Nat} {s' : St M} (hb : ∀ b ∈ bs, isB b = true) (hm : M.mid c = false) (h : Like M u c P) (e : fd M (c, [], P) b = some s') (hnb : M.f0 c b ≠ .blank)
    (hs : ∀ c'', M.f0 c b = .start c'' → M.adj = true → M.kd c'' = 5 → lastk P = 5 → bs ≠ []) (rest : List Nat) : run M (bs ++ b :: rest) u = run M rest s' := by
  obtain ⟨u', h1, h2, h3, h4⟩ := blanks_run hM hb hm u h
  rw [run_app, h1]
  show (match fd M u' b with | some s'' => run M rest s'' | none => none) = _
  have : fd M u' b = some s' := by
    rw [like_fd hM h2 hm ?_, e]
    rcases h2 with e2 | ⟨c0, b0, P0, k, e2, hz, eP⟩
    · exact Or.inl e2
    · by_cases hbs : bs = []
      · refine Or.inr fun c1 b1 P1 e1 => ?_
        rw [e2] at e1
        injection e1 with e1 _
        rw [← e1]
        cases hf : M.f1 c0 b with
        | none => rfl
        | some r =>
          exfalso
          rcases hM.sep _ _ _ _ hz (by rw [hf]; simp) with q | q | ⟨q0, q1, c'', q2, q3⟩
          · simp [fd, hm, q, app] at e
          · exact hnb (hM.bl _ _ q hm)
          · exact hs c'' q2 q0 q3 (by rw [eP, lastk_snoc]; exact q1) hbs
      · exact Or.inl (h3 hbs)
  rw [this]
include hg
theorem sepN (p2 : List Nat) (ih : ∀ c buf P1 sf Pf, run M p2 (c, buf, P1) = some sf → fin M sf = some Pf →
      (M.mid c = false → buf = [] → ∃ R, Pf = P1 ++ R ∧ ∀ u, Like M u c P1 → Aj M.adj g (lastk P1) P1.length R → ∃ uf, run M (glue g P1.length R) u = some uf ∧ fin M uf = some Pf) ∧
      (M.mid c = true → ∃ t R, Pf = P1 ++ (M.kd c, buf ++ t) :: R ∧ (Aj M.adj g (M.kd c) (P1.length + 1) R → ∃ uf, run M (t ++ glue g (P1.length + 1) R) (c, buf, P1) = some uf ∧ fin M uf = some Pf)))
    (b : Nat) (c : M.C) (P1 : List Pc) (sf : St M) (Pf : List Pc) (hr : run M (b :: p2) (c, [], P1) = some sf) (hf : fin M sf = some Pf) (hm : M.mid c = false) :
    ∃ R, Pf = P1 ++ R ∧ ∀ u, Like M u c P1 → Aj M.adj g (lastk P1) P1.length R → ∃ uf, run M (glue g P1.length R) u = some uf ∧ fin M uf = some Pf := by
  have e0 : fd M (c, [], P1) b = app M (M.f0 c b) (c, [], P1) b := by simp [fd, hm]
  unfold run at hr
  rw [e0] at hr
  cases h0 : M.f0 c b with
  | bad => rw [h0] at hr; simp [app] at hr
  | blank =>
    rw [h0] at hr
    exact (ih c [] P1 sf Pf hr hf).1 hm rfl
  | more c' => exact absurd h0 (hM.m0 _ _ _)
  | last k c' => exact absurd h0 (hM.l0 _ _ _ _)
  | start c' =>
    rw [h0] at hr e0
    obtain ⟨t, R, e1, e2⟩ := (ih c' [b] P1 sf Pf hr hf).2 (hM.s0 _ _ _ h0)
    refine ⟨(M.kd c', [b] ++ t) :: R, e1, fun u hu ha => ?_⟩
    obtain ⟨uf, r1, r2⟩ := e2 ha.2
    refine ⟨uf, ?_, r2⟩
    show run M (g P1.length ++ (b :: (t ++ glue g (P1.length + 1) R))) u = _
    rw [gap_fd hM (hg _) hm hu e0 (by rw [h0]; simp) (fun c'' q1 q0 q2 q3 => by
      rw [h0] at q1
      injection q1 with q1
      rw [← q1] at q2
      exact ha.1 q0 q3 q2)]
    exact r1
  | whole k c' =>
    rw [h0] at hr e0
    obtain ⟨R, e1, e2⟩ := (ih c' [] (P1 ++ [(k, [b])]) sf Pf hr hf).1 (hM.w0 _ _ _ _ h0) rfl
    refine ⟨(k, [b]) :: R, by rw [e1]; simp, fun u hu ha => ?_⟩
    obtain ⟨uf, r1, r2⟩ := e2 (c', [], P1 ++ [(k, [b])]) (Or.inl rfl) (by
      rw [lastk_snoc, List.length_append]
      exact ha.2)
    refine ⟨uf, ?_, r2⟩
    show run M (g P1.length ++ (b :: ([] ++ glue g (P1.length + 1) R))) u = _
    rw [gap_fd hM (hg _) hm hu e0 (by rw [h0]; simp) (fun c'' q1 => by rw [h0] at q1; cases q1)]
    rw [List.length_append] at r1
    exact r1
theorem sep : ∀ (p2 : List Nat) (c : M.C) (buf : List Nat) (P1 : List Pc) (sf : St M) (Pf : List Pc), run M p2 (c, buf, P1) = some sf → fin M sf = some Pf →
      (M.mid c = false → buf = [] → ∃ R, Pf = P1 ++ R ∧ ∀ u, Like M u c P1 → Aj M.adj g (lastk P1) P1.length R → ∃ uf, run M (glue g P1.length R) u = some uf ∧ fin M uf = some Pf) ∧
      (M.mid c = true → ∃ t R, Pf = P1 ++ (M.kd c, buf ++ t) :: R ∧ (Aj M.adj g (M.kd c) (P1.length + 1) R → ∃ uf, run M (t ++ glue g (P1.length + 1) R) (c, buf, P1) = some uf ∧ fin M uf = some Pf))
  | [], c, buf, P1, sf, Pf, hr, hf => by
    injection hr with hr
    subst hr
    refine ⟨fun hm hb => ?_, fun hm => ?_⟩
    · subst hb
      simp only [fin, hm] at hf
      rw [if_neg (by simp)] at hf
      by_cases hgd : M.good c = true
      · rw [if_pos hgd] at hf
        injection hf with hf
        subst hf
        refine ⟨[], (List.append_nil _).symm, fun u hu _ => ?_⟩
        obtain ⟨u', h1, h2, _⟩ := blanks_run hM (hg P1.length) hm u hu
        exact ⟨u', h1, like_fin hM h2 hm hgd⟩
      · rw [if_neg hgd] at hf; cases hf
    · simp only [fin, hm, if_true] at hf
      cases hz : M.lz c with
      | none => rw [hz] at hf; cases hf
      | some kc =>
        obtain ⟨k, c'⟩ := kc
        rw [hz] at hf
        obtain ⟨_, hm', rfl⟩ := hM.lzm _ _ _ hz
        by_cases hgd : M.good c' = true
        · simp only [if_pos hgd] at hf
          injection hf with hf
          subst hf
          refine ⟨[], [], by rw [List.append_nil], fun _ => ?_⟩
          obtain ⟨u', h1, h2, _⟩ := blanks_run hM (P := P1 ++ [(M.kd c, buf)]) (hg (P1.length + 1)) hm' (c, buf, P1) (Or.inr ⟨c, buf, P1, _, rfl, hz, rfl⟩)
          exact ⟨u', h1, like_fin hM h2 hm' hgd⟩
        · simp only [if_neg hgd] at hf; cases hf
  | b :: p2, c, buf, P1, sf, Pf, hr, hf => by
    have ih := sep p2
    have hN := sepN hM hg p2 ih b
    refine ⟨fun hm hb => by subst hb; exact hN c P1 sf Pf hr hf hm, fun hm => ?_⟩
    have hr0 := hr
    unfold run at hr
    cases h1 : M.f1 c b with
    | some r =>
      have e0 : fd M (c, buf, P1) b = app M r (c, buf, P1) b := by simp [fd, hm, h1]
      rw [e0] at hr
      cases r with
      | bad => simp [app] at hr
      | blank => exact absurd h1 (hM.b1 _ _)
      | start c' => exact absurd h1 (hM.s1 _ _ _)
      | whole k c' => exact absurd h1 (hM.w1 _ _ _ _)
      | more c' =>
        obtain ⟨hm', hk⟩ := hM.m1 _ _ _ h1
        obtain ⟨t, R, e1, e2⟩ := (ih c' (buf ++ [b]) P1 sf Pf hr hf).2 hm'
        rw [hk] at e1 e2
        refine ⟨b :: t, R, by rw [e1]; simp, fun ha => ?_⟩
        obtain ⟨uf, r1, r2⟩ := e2 ha
        refine ⟨uf, ?_, r2⟩
        show (match fd M (c, buf, P1) b with | some s' => run M (t ++ glue g (P1.length + 1) R) s' | none => none) = _
        rw [e0]
        exact r1
      | last k c' =>
        obtain ⟨hm', rfl⟩ := hM.l1 _ _ _ _ h1
        obtain ⟨R, e1, e2⟩ := (ih c' [] (P1 ++ [(M.kd c, buf ++ [b])]) sf Pf hr hf).1 hm' rfl
        refine ⟨[b], R, by rw [e1]; simp, fun ha => ?_⟩
        obtain ⟨uf, r1, r2⟩ := e2 (c', [], P1 ++ [(M.kd c, buf ++ [b])]) (Or.inl rfl) (by rw [lastk_snoc, List.length_append]; exact ha)
        refine ⟨uf, ?_, r2⟩
        show (match fd M (c, buf, P1) b with | some s' => run M ([] ++ glue g (P1.length + 1) R) s' | none => none) = _
        rw [e0]
        rw [List.length_append] at r1
        exact r1
    | none =>
      cases hz : M.lz c with
      | none =>
        have e0 : fd M (c, buf, P1) b = none := by simp [fd, hm, h1, hz]
        rw [e0] at hr
        cases hr
      | some kc =>
        obtain ⟨k, c'⟩ := kc
        obtain ⟨_, hm', rfl⟩ := hM.lzm _ _ _ hz
        have e0 : fd M (c, buf, P1) b = fd M (c', [], P1 ++ [(M.kd c, buf)]) b := by simp [fd, hm, h1, hz, hm']
        obtain ⟨R, e1, e2⟩ := hN c' (P1 ++ [(M.kd c, buf)]) sf Pf (by unfold run; rw [← e0]; exact hr) hf hm'
        refine ⟨[], R, by rw [e1]; simp, fun ha => ?_⟩
        obtain ⟨uf, r1, r2⟩ := e2 (c, buf, P1) (Or.inr ⟨c, buf, P1, _, rfl, hz, rfl⟩) (by rw [lastk_snoc, List.length_append]; exact ha)
        rw [List.length_append] at r1
        exact ⟨uf, r1, r2⟩
/-- What is read as tokens is read so with any blanks between, where two atoms keep one. -/
theorem reads_glue {c : M.C} (hm : M.mid c = false) {p : List Nat} {sf : St M} {P : List Pc} (hr : run M p (c, [], []) = some sf) (hf : fin M sf = some P) (ha : Aj M.adj g 0 0 P) :
    ∃ uf, run M (glue g 0 P) (c, [], []) = some uf ∧ fin M uf = some P := by
  obtain ⟨R, e, h⟩ := (sep hM hg p c [] [] sf P hr hf).1 hm rfl
  rw [List.nil_append] at e
  subst e
  exact h (c, [], []) (Or.inl rfl) ha
end
end Go.Proofs.PlatenTree

/- The document's machine for S-expressions as a reader without places. -/
namespace Go.Proofs.PlatenTree
set_option linter.unusedVariables false
open Go.Proofs.PlatenSexp (Sm isP aft)

/-- So many bytes from a place. -/
def sl (p : List Nat) (a m : Nat) : List Nat := (p.drop a).take m
def pcs (p : List Nat) (t : Nat × Nat × Nat) : Pc := (t.1, sl p t.2.1 t.2.2)
theorem sl_one (p : List Nat) {i c : Nat} (h : p[i]? = some c) : sl p i 1 = [c] := by
  have hi := (List.getElem?_eq_some_iff.1 h).1
  have he := (List.getElem?_eq_some_iff.1 h).2
  unfold sl
  rw [List.drop_eq_getElem_cons hi, he]
  rfl
theorem sl_snoc (p : List Nat) {a i c : Nat} (ha : a ≤ i) (h : p[i]? = some c) : sl p a (i + 1 - a) = sl p a (i - a) ++ [c] := by
  unfold sl
  rw [show i + 1 - a = (i - a) + 1 by omega, List.take_add_one]
  congr 1
  rw [List.getElem?_drop, show a + (i - a) = i by omega, h]
  rfl
def sf0 (st dep b : Nat) : Rt (Nat × Nat) :=
  if isB b = true then .blank
  else if st = 6 then .bad
  else if b = 41 ∧ st = 1 then .whole 2 (aft (dep - 1), dep - 1)
  else if b = 39 ∨ b = 96 then .whole 6 (0, dep)
  else if b = 44 then .start (2, dep)
  else if b = 40 then (if dep = 512 then .bad else .whole 1 (1, dep + 1))
  else if b = 34 then .start (4, dep)
  else if isP b = true ∧ b ≠ 64 then .start (3, dep)
  else .bad
def sf1 (st dep b : Nat) : Option (Rt (Nat × Nat)) :=
  if st = 4 then some (if b = 34 then .last 5 (aft dep, dep) else if b = 92 then .more (5, dep) else .more (4, dep))
  else if st = 5 then some (.more (4, dep))
  else if st = 3 then (if isP b = true then some (.more (3, dep)) else none)
  else if st = 2 then (if b = 64 then some (.last 6 (0, dep)) else none)
  else none
def slz (st dep : Nat) : Option (Nat × Nat × Nat) := if st = 3 then some (5, aft dep, dep) else if st = 2 then some (6, 0, dep) else none
def smid (st : Nat) : Bool := decide (st = 2) || decide (st = 3) || decide (st = 4) || decide (st = 5)
def SM : Mach where
  C := Nat × Nat
  mid c := smid c.1
  good c := decide (c.1 = 6)
  kd c := if c.1 = 2 then 6 else 5
  adj := true
  f0 c b := sf0 c.1 c.2 b
  f1 c b := sf1 c.1 c.2 b
  lz c := slz c.1 c.2
theorem aft_or (d : Nat) : aft d = 6 ∨ aft d = 1 := by unfold aft; split <;> simp
theorem aft_mid (d : Nat) : smid (aft d) = false := by rcases aft_or d with h | h <;> rw [h] <;> rfl
theorem isB_or {b : Nat} (h : isB b = true) : b = 32 ∨ b = 9 ∨ b = 10 ∨ b = 13 := by simpa [isB, or_assoc] using h
theorem blank_part {b : Nat} (h : isB b = true) : isP b = false := by
  rcases isB_or h with rfl | rfl | rfl | rfl <;> rfl
theorem part_not {b : Nat} (h : isP b = true) : isB b = false ∧ b ≠ 41 ∧ b ≠ 39 ∧ b ≠ 96 ∧ b ≠ 44 ∧ b ≠ 40 ∧ b ≠ 34 := by
  refine ⟨?_, ?_, ?_, ?_, ?_, ?_, ?_⟩
  · cases hb : isB b with
    | false => rfl
    | true => rw [blank_part hb] at h; cases h
  all_goals (intro e; rw [e] at h; revert h; decide)
theorem sm_ok : Ok SM := by
  constructor
  · intro c k c' h
    obtain ⟨st, dep⟩ := c
    simp only [SM, slz] at h ⊢
    split at h
    · rename_i h3; injection h with h; injection h with h1 h2; subst h1 h2 h3
      exact ⟨rfl, aft_mid _, rfl⟩
    · split at h
      · rename_i h2; injection h with h; injection h with h1 h3; subst h1 h3 h2
        exact ⟨rfl, rfl, rfl⟩
      · cases h
  · intro c b c' h
    obtain ⟨st, dep⟩ := c
    simp only [SM, sf0] at h ⊢
    repeat' (split at h)
    all_goals first | (cases h; done) | (cases h; rfl)
  · intro c b k c' h
    obtain ⟨st, dep⟩ := c
    simp only [SM, sf0] at h ⊢
    repeat' (split at h)
    all_goals first | (cases h; done) | (injection h with h1 h; subst h; first | rfl | exact aft_mid _)
  · intro c b c' h
    simp only [SM, sf0] at h
    repeat' (split at h)
    all_goals cases h
  · intro c b k c' h
    simp only [SM, sf0] at h
    repeat' (split at h)
    all_goals cases h
  · intro c b c' h
    obtain ⟨st, dep⟩ := c
    simp only [SM, sf1] at h ⊢
    repeat' (split at h)
    all_goals first | (cases h; done) | (injection h with h; injection h with h; subst h; simp_all [smid]) | (injection h with h; cases h)
  · intro c b k c' h
    obtain ⟨st, dep⟩ := c
    simp only [SM, sf1] at h ⊢
    repeat' (split at h)
    all_goals first | (cases h; done) | (injection h with h; injection h with h1 h; subst h h1; have ha := aft_or dep; refine ⟨?_, ?_⟩ <;> simp_all [smid] <;> omega) | (injection h with h; cases h)
  · intro c b h
    simp only [SM, sf1] at h
    repeat' (split at h)
    all_goals cases h
  · intro c b c' h
    simp only [SM, sf1] at h
    repeat' (split at h)
    all_goals cases h
  · intro c b k c' h
    simp only [SM, sf1] at h
    repeat' (split at h)
    all_goals cases h
  · intro c b hb hm
    simp only [SM, sf0]
    rw [if_pos hb]
  · intro c b kc hb hz
    obtain ⟨st, dep⟩ := c
    simp only [SM, slz, sf1] at hz ⊢
    split at hz
    · rename_i h3; subst h3; simp [blank_part hb]
    · split at hz
      · rename_i h3 h2
        subst h2
        have : b ≠ 64 := by rcases isB_or hb with rfl | rfl | rfl | rfl <;> decide
        simp [this]
      · cases hz
  · intro c b h
    simp only [SM, sf0] at h
    split at h
    · assumption
    · repeat' (split at h)
      all_goals cases h
  · intro c k c' b hz h1
    obtain ⟨st, dep⟩ := c
    simp only [SM, slz, sf1, sf0] at hz h1 ⊢
    split at hz
    · rename_i h3
      subst h3
      injection hz with hz; injection hz with hk hz; subst hk hz
      rw [if_neg (by decide), if_neg (by decide), if_pos rfl] at h1
      by_cases hp : isP b = true
      · obtain ⟨p1, p2, p3, p4, p5, p6, p7⟩ := part_not hp
        rcases aft_or dep with e | e
        · left; simp [p1, e]
        · by_cases h64 : b = 64
          · left; subst h64; rw [e]; rfl
          · right; right; refine ⟨trivial, rfl, (3, dep), ?_, rfl⟩; simp [p1, e, p2, p3, p4, p5, p6, p7, h64, hp]
      · rw [if_neg hp] at h1; exact absurd rfl h1
    · split at hz
      · rename_i h3 h2
        subst h2
        injection hz with hz; injection hz with hk hz; subst hk hz
        rw [if_neg (by decide), if_neg (by decide), if_neg (by decide), if_pos rfl] at h1
        by_cases h64 : b = 64
        · left; subst h64; rfl
        · rw [if_neg h64] at h1; exact absurd rfl h1
      · cases hz
end Go.Proofs.PlatenTree

/- The document's answer for S-expressions, without places. -/
namespace Go.Proofs.PlatenTree
set_option linter.unusedVariables false
open Go.Proofs.PlatenSexp (Sm isP aft feedB feed start)

def Sim (p : List Nat) (i : Nat) (M : Sm) (s : St SM) : Prop :=
  s.1 = (M.st, M.dep) ∧ s.2.2 = M.l.map (pcs p) ∧ (smid M.st = true → M.fr ≤ i ∧ s.2.1 = sl p M.fr (i - M.fr)) ∧ (smid M.st = false → s.2.1 = [])
def Both (p : List Nat) (i : Nat) (r : Nat × Sm) (o : Option (St SM)) : Prop :=
  match o with
  | some s' => r.1 = 0 ∧ Sim p i r.2 s'
  | none => r.1 ≠ 0
theorem isB_eq (c : Nat) : Go.Proofs.PlatenSexp.isB c = isB c := rfl
theorem feedB_sim {p : List Nat} {i c : Nat} (M : Sm) (h : p[i]? = some c) : Both p (i + 1) (feedB M c i) (app SM (sf0 M.st M.dep c) ((M.st, M.dep), [], M.l.map (pcs p)) c) ∨ smid M.st = true := by
  cases hm : smid M.st with
  | true => exact Or.inr rfl
  | false =>
    left
    have h1 := sl_one p h
    unfold feedB sf0
    rw [isB_eq]
    by_cases hb : isB c = true
    · rw [if_pos hb, if_pos hb]
      exact ⟨rfl, rfl, rfl, (fun q => by rw [hm] at q; cases q), fun _ => rfl⟩
    rw [if_neg hb, if_neg hb]
    by_cases h6 : M.st = 6
    · rw [if_pos h6, if_pos h6]; exact (by decide : (5 : Nat) ≠ 0)
    rw [if_neg h6, if_neg h6]
    by_cases h41 : c = 41 ∧ M.st = 1
    · rw [if_pos h41, if_pos h41]
      exact ⟨rfl, rfl, by simp [pcs, h1], (fun q => by rw [aft_mid] at q; cases q), fun _ => rfl⟩
    rw [if_neg h41, if_neg h41]
    unfold start
    by_cases h39 : c = 39 ∨ c = 96
    · rw [if_pos h39, if_pos h39]
      exact ⟨rfl, rfl, by simp [pcs, h1], (fun q => by cases q), fun _ => rfl⟩
    rw [if_neg h39, if_neg h39]
    have e1 : [c] = sl p i (i + 1 - i) := by rw [show i + 1 - i = 1 by omega, h1]
    by_cases h44 : c = 44
    · rw [if_pos h44, if_pos h44]
      exact ⟨rfl, rfl, rfl, fun _ => ⟨Nat.le_succ _, e1⟩, fun q => by cases q⟩
    rw [if_neg h44, if_neg h44]
    by_cases h40 : c = 40
    · rw [if_pos h40, if_pos h40]
      by_cases hd : M.dep = 512
      · rw [if_pos hd, if_pos hd]; exact (by decide : (6 : Nat) ≠ 0)
      · rw [if_neg hd, if_neg hd]
        exact ⟨rfl, rfl, by simp [pcs, h1], (fun q => by cases q), fun _ => rfl⟩
    rw [if_neg h40, if_neg h40]
    by_cases h34 : c = 34
    · rw [if_pos h34, if_pos h34]
      exact ⟨rfl, rfl, rfl, fun _ => ⟨Nat.le_succ _, e1⟩, fun q => by cases q⟩
    rw [if_neg h34, if_neg h34]
    by_cases hp : isP c = true ∧ c ≠ 64
    · rw [if_pos hp, if_pos hp]
      exact ⟨rfl, rfl, rfl, fun _ => ⟨Nat.le_succ _, e1⟩, fun q => by cases q⟩
    · rw [if_neg hp, if_neg hp]; exact (by decide : (5 : Nat) ≠ 0)
theorem feed_sim {p : List Nat} {i c : Nat} (M : Sm) (s : St SM) (hs : Sim p i M s) (h : p[i]? = some c) : Both p (i + 1) (feed M c i) (fd SM s c) := by
  obtain ⟨s1, buf, P⟩ := s
  obtain ⟨e1, e2, e3, e4⟩ := hs
  simp only at e1 e2 e3 e4
  subst e1 e2
  unfold feed
  by_cases h4 : M.st = 4
  · have hm : smid M.st = true := by rw [h4]; rfl
    obtain ⟨f1, f2⟩ := e3 hm
    have f3 := sl_snoc p f1 h
    rw [if_pos h4]
    have ef : fd SM ((M.st, M.dep), buf, M.l.map (pcs p)) c = app SM (if c = 34 then .last 5 (aft M.dep, M.dep) else if c = 92 then .more (5, M.dep) else .more (4, M.dep)) ((M.st, M.dep), buf, M.l.map (pcs p)) c := by
      simp [fd, SM, sf1, smid, h4]
    rw [ef]
    by_cases c34 : c = 34
    · rw [if_pos c34, if_pos c34]
      refine ⟨rfl, rfl, ?_, (fun q => by rw [aft_mid] at q; cases q), fun _ => rfl⟩
      show M.l.map (pcs p) ++ [(5, buf ++ [c])] = _
      simp [pcs, f3, f2]
    rw [if_neg c34, if_neg c34]
    by_cases c92 : c = 92
    · rw [if_pos c92, if_pos c92]
      exact ⟨rfl, rfl, rfl, fun _ => ⟨by show M.fr ≤ i + 1; omega, by show buf ++ [c] = _; rw [f3, f2]⟩, fun q => by cases q⟩
    · rw [if_neg c92, if_neg c92]
      exact ⟨rfl, by rw [h4], rfl, fun _ => ⟨by show M.fr ≤ i + 1; omega, by show buf ++ [c] = _; rw [f3, f2]⟩, fun q => by rw [hm] at q; cases q⟩
  rw [if_neg h4]
  by_cases h5 : M.st = 5
  · have hm : smid M.st = true := by rw [h5]; rfl
    obtain ⟨f1, f2⟩ := e3 hm
    have f3 := sl_snoc p f1 h
    rw [if_pos h5]
    have ef : fd SM ((M.st, M.dep), buf, M.l.map (pcs p)) c = some ((4, M.dep), buf ++ [c], M.l.map (pcs p)) := by
      simp [fd, SM, sf1, smid, h5, app]
    rw [ef]
    exact ⟨rfl, rfl, rfl, fun _ => ⟨by show M.fr ≤ i + 1; omega, by show buf ++ [c] = _; rw [f3, f2]⟩, fun q => by cases q⟩
  rw [if_neg h5]
  by_cases h3 : M.st = 3
  · have hm : smid M.st = true := by rw [h3]; rfl
    obtain ⟨f1, f2⟩ := e3 hm
    have f3 := sl_snoc p f1 h
    rw [if_pos h3]
    by_cases hp : isP c = true
    · rw [if_pos hp]
      have ef : fd SM ((M.st, M.dep), buf, M.l.map (pcs p)) c = some ((3, M.dep), buf ++ [c], M.l.map (pcs p)) := by
        simp [fd, SM, sf1, smid, h3, app, hp]
      rw [ef]
      exact ⟨rfl, by rw [h3], rfl, fun _ => ⟨by show M.fr ≤ i + 1; omega, by show buf ++ [c] = _; rw [f3, f2]⟩, fun q => by rw [hm] at q; cases q⟩
    · rw [if_neg hp]
      have ef : fd SM ((M.st, M.dep), buf, M.l.map (pcs p)) c = app SM (sf0 (aft M.dep) M.dep c) ((aft M.dep, M.dep), [], (M.l ++ [(5, M.fr, i - M.fr)]).map (pcs p)) c := by
        simp [fd, SM, sf1, smid, h3, hp, slz, pcs, f2]
      rw [ef]
      rcases feedB_sim ⟨aft M.dep, M.dep, M.fr, M.l ++ [(5, M.fr, i - M.fr)]⟩ h with q | q
      · exact q
      · rw [aft_mid] at q; cases q
  rw [if_neg h3]
  by_cases h2 : M.st = 2
  · have hm : smid M.st = true := by rw [h2]; rfl
    obtain ⟨f1, f2⟩ := e3 hm
    have f3 := sl_snoc p f1 h
    rw [if_pos h2]
    by_cases hp : c = 64
    · rw [if_pos hp]
      have ef : fd SM ((M.st, M.dep), buf, M.l.map (pcs p)) c = some ((0, M.dep), [], M.l.map (pcs p) ++ [(6, buf ++ [c])]) := by
        simp [fd, SM, sf1, smid, h2, app, hp]
      rw [ef]
      exact ⟨rfl, rfl, by simp [pcs, f3, f2], (fun q => by cases q), fun _ => rfl⟩
    · rw [if_neg hp]
      have ef : fd SM ((M.st, M.dep), buf, M.l.map (pcs p)) c = app SM (sf0 0 M.dep c) ((0, M.dep), [], (M.l ++ [(6, M.fr, i - M.fr)]).map (pcs p)) c := by
        simp [fd, SM, sf1, smid, h2, hp, slz, pcs, f2]
      rw [ef]
      rcases feedB_sim ⟨0, M.dep, M.fr, M.l ++ [(6, M.fr, i - M.fr)]⟩ h with q | q
      · exact q
      · cases q
  rw [if_neg h2]
  have hm : smid M.st = false := by simp [smid, h2, h3, h4, h5]
  have eb := e4 hm
  subst eb
  have ef : fd SM ((M.st, M.dep), [], M.l.map (pcs p)) c = app SM (sf0 M.st M.dep c) ((M.st, M.dep), [], M.l.map (pcs p)) c := by simp [fd, SM, hm]
  rw [ef]
  rcases feedB_sim M h with q | q
  · exact q
  · rw [hm] at q; cases q
/-- The answer and what is read without places. -/
def Ans (p : List Nat) (r : List (Nat × Nat × Nat) × Nat × Nat) (o : Option (List Pc)) : Prop :=
  match o with
  | some P => ∃ l, r = (l, 0, 0) ∧ l.map (pcs p) = P
  | none => r.2.2 ≠ 0
def read (M : Mach) (c : M.C) (p : List Nat) : Option (List Pc) :=
  match run M p (c, [], []) with
  | some s => fin M s
  | none => none
theorem fin_sim {p : List Nat} (M : Sm) (s : St SM) (hs : Sim p p.length M s) : Ans p (Go.Proofs.PlatenSexp.fin' M p.length) (fin SM s) := by
  obtain ⟨s1, buf, P⟩ := s
  obtain ⟨e1, e2, e3, e4⟩ := hs
  simp only at e1 e2 e3 e4
  subst e1 e2
  unfold Go.Proofs.PlatenSexp.fin' Go.Proofs.PlatenSexp.finA
  by_cases h3 : M.st = 3
  · have hm : smid M.st = true := by rw [h3]; rfl
    obtain ⟨f1, f2⟩ := e3 hm
    rw [if_pos h3]
    by_cases h6 : aft M.dep = 6
    · rw [if_neg (fun q => q h6)]
      have ef : fin SM ((M.st, M.dep), buf, M.l.map (pcs p)) = some (M.l.map (pcs p) ++ [(5, buf)]) := by simp [fin, SM, smid, slz, h3, h6]
      rw [ef]
      exact ⟨_, rfl, by simp [pcs, f2]⟩
    · rw [if_pos h6]
      have ef : fin SM ((M.st, M.dep), buf, M.l.map (pcs p)) = none := by simp [fin, SM, smid, slz, h3, h6]
      rw [ef]
      exact (by decide : (5 : Nat) ≠ 0)
  rw [if_neg h3]
  by_cases h6 : M.st = 6
  · have hm : smid M.st = false := by rw [h6]; rfl
    rw [if_neg (fun q => q h6)]
    have ef : fin SM ((M.st, M.dep), buf, M.l.map (pcs p)) = some (M.l.map (pcs p)) := by simp [fin, SM, smid, h6]
    rw [ef]
    exact ⟨_, rfl, rfl⟩
  · rw [if_pos h6]
    have ef : fin SM ((M.st, M.dep), buf, M.l.map (pcs p)) = none := by
      cases hm : smid M.st with
      | false => simp [fin, SM, hm, h6]
      | true =>
        by_cases h2 : M.st = 2
        · simp [fin, SM, smid, slz, h2]
        · simp [fin, SM, hm, slz, h3, h2]
    rw [ef]
    exact (by decide : (5 : Nat) ≠ 0)
theorem run_sim (p : List Nat) : ∀ k i (M : Sm) (s : St SM), i + k = p.length → Sim p i M s → Ans p (Go.Proofs.PlatenSexp.run (fun j => p.getD j 0) k i M) (match run SM (p.drop i) s with | some s' => fin SM s' | none => none)
  | 0, i, M, s, hi, hs => by
    obtain rfl : i = p.length := by omega
    rw [List.drop_length]
    exact fin_sim M s hs
  | k + 1, i, M, s, hi, hs => by
    have hlt : i < p.length := by omega
    have hc : p[i]? = some p[i] := List.getElem?_eq_getElem hlt
    have hg : p.getD i 0 = p[i] := by rw [List.getD_eq_getElem?_getD, hc]; rfl
    have hf := feed_sim M s hs hc
    rw [List.drop_eq_getElem_cons hlt, run_cons]
    have hfeed : feed M ((fun j => p.getD j 0) i) i = feed M p[i] i := by show feed M (p.getD i 0) i = _; rw [hg]
    show Ans p (if (feed M ((fun j => p.getD j 0) i) i).1 = 0 then Go.Proofs.PlatenSexp.run (fun j => p.getD j 0) k (i + 1) (feed M ((fun j => p.getD j 0) i) i).2 else ([], i, (feed M ((fun j => p.getD j 0) i) i).1)) _
    rw [hfeed]
    cases ho : fd SM s p[i] with
    | none =>
      rw [ho] at hf
      have h0 : (feed M p[i] i).1 ≠ 0 := hf
      rw [if_neg h0]
      exact h0
    | some s' =>
      rw [ho] at hf
      have h0 : (feed M p[i] i).1 = 0 ∧ Sim p (i + 1) (feed M p[i] i).2 s' := hf
      rw [if_pos h0.1]
      exact run_sim p k (i + 1) _ s' (by omega) h0.2
/-- The document's answer of a text, and its tokens' bytes. -/
theorem sexp_ans (p : List Nat) : Ans p (Go.Proofs.PlatenSexp.ans (fun j => p.getD j 0) p.length) (read SM (0, 0) p) := by
  have h := run_sim p p.length 0 Go.Proofs.PlatenSexp.M0 ((0, 0), [], []) (by omega) ⟨rfl, rfl, (fun q => by cases q), fun _ => rfl⟩
  rw [List.drop_zero] at h
  unfold Go.Proofs.PlatenSexp.ans Go.Proofs.PlatenSexp.out read
  rw [Nat.sub_zero]
  generalize run SM p ((0, 0), [], []) = o at h ⊢
  cases o with
  | none => exact h
  | some s => exact h
/-- What is read as tokens is read so with any blanks between, where two atoms keep one. -/
theorem sexp_glue {g : Nat → List Nat} (hg : ∀ k, ∀ b ∈ g k, isB b = true) {p : List Nat} {P : List Pc} (h : read SM (0, 0) p = some P) (ha : Aj true g 0 0 P) : read SM (0, 0) (glue g 0 P) = some P := by
  unfold read at h ⊢
  cases hr : run SM p ((0, 0), [], []) with
  | none => rw [hr] at h; cases h
  | some sf =>
    rw [hr] at h
    obtain ⟨uf, h1, h2⟩ := reads_glue sm_ok hg (c := ((0, 0) : Nat × Nat)) rfl hr h ha
    rw [h1]
    exact h2
end Go.Proofs.PlatenTree

/- The document's machine for JSON as a reader without places. -/
namespace Go.Proofs.PlatenTree
set_option linter.unusedVariables false
open Go.Proofs.PlatenJson (Mc numb isD isH isE)

structure Jc where
  st : Nat
  stack : List Nat
  nm : Bool
  left : List Nat
  cnt : Nat
def jatom (c : Jc) : Jc := { c with st := if c.nm then 4 else 5, nm := false }
def jmid (st : Nat) : Bool := decide (6 ≤ st) && decide (st ≤ 17)
def jbegin (c : Jc) (b : Nat) : Rt Jc :=
  if b = 123 ∨ b = 91 then (if c.stack.length = 512 then .bad else .whole 1 { c with stack := b :: c.stack, st := if b = 123 then 2 else 1 })
  else if b = 34 then .start { c with st := 6 }
  else if b = 45 then .start { c with st := 9 }
  else if b = 48 then .start { c with st := 10 }
  else if isD b then .start { c with st := 11 }
  else if b = 116 then .start { c with st := 17, left := [114, 117, 101] }
  else if b = 102 then .start { c with st := 17, left := [97, 108, 115, 101] }
  else if b = 110 then .start { c with st := 17, left := [117, 108, 108] }
  else .bad
def jnext (c : Jc) (b : Nat) : Rt Jc :=
  match c.stack with
  | [] => .bad
  | x :: S =>
    if b = 44 ∧ x = 91 then .whole 3 { c with st := 0 }
    else if b = 44 then .whole 3 { c with st := 3 }
    else if (b = 93 ∧ x = 91) ∨ (b = 125 ∧ x ≠ 91) then .whole 2 { c with stack := S, st := 5 }
    else .bad
def jf0 (c : Jc) (b : Nat) : Rt Jc :=
  if isB b = true then .blank
  else if c.st = 0 then jbegin c b
  else if c.st = 1 then (if b = 93 then jnext c b else jbegin c b)
  else if c.st = 2 ∨ c.st = 3 then
    (if b = 125 ∧ c.st = 2 then jnext c b else if b ≠ 34 then .bad else .start { c with st := 6, nm := true })
  else if c.st = 4 then (if b ≠ 58 then .bad else .whole 4 { c with st := 0 })
  else jnext c b
def jinside (c : Jc) (b : Nat) : Rt Jc :=
  if c.st = 6 then
    (if b < 32 then .bad else if b = 34 then .last 5 (jatom c) else if b = 92 then .more { c with st := 7 } else .more c)
  else if c.st = 7 then
    (if b = 117 then .more { c with st := 8, cnt := 4 } else if isE b then .more { c with st := 6 } else .bad)
  else if c.st = 8 then
    (if isH b then .more { c with cnt := c.cnt - 1, st := if c.cnt - 1 = 0 then 6 else 8 } else .bad)
  else if c.st = 17 then
    (match c.left with
    | [] => .bad
    | x :: r => if b ≠ x then .bad else if r = [] then .last 5 (jatom { c with left := r }) else .more { c with left := r })
  else .bad
def jends (s : Nat) : Bool := Go.Proofs.PlatenJson.ends s
def jf1 (c : Jc) (b : Nat) : Option (Rt Jc) :=
  if jmid c.st = true then
    (if (numb c.st b).2 = true then some (.more { c with st := (numb c.st b).1 })
     else if jends c.st = true then none
     else some (jinside c b))
  else none
def JM : Mach where
  C := Jc
  mid c := jmid c.st
  good c := decide (c.st = 5) && c.stack.isEmpty
  kd _ := 5
  adj := false
  f0 := jf0
  f1 := jf1
  lz c := if jends c.st = true then some (5, jatom c) else none
theorem numb_in {s c : Nat} (h : (numb s c).2 = true) : 9 ≤ s ∧ s ≤ 16 ∧ 10 ≤ (numb s c).1 ∧ (numb s c).1 ≤ 16 := by
  unfold numb at h ⊢
  repeat' (split at h)
  all_goals first | (cases h; done) | (simp_all <;> omega)
theorem numb_char {s c : Nat} (h : (numb s c).2 = true) : isB c = false ∧ c ≠ 58 ∧ c ≠ 44 ∧ c ≠ 93 ∧ c ≠ 125 := by
  have hd : ∀ c, isD c = true → isB c = false ∧ c ≠ 58 ∧ c ≠ 44 ∧ c ≠ 93 ∧ c ≠ 125 := by
    intro c h
    simp [isD] at h
    simp [isB]
    omega
  unfold numb at h
  repeat' (split at h)
  all_goals first
    | (cases h; done)
    | exact hd c h
    | (simp at h; exact hd c h.2)
    | (rename_i q; subst q; decide)
    | (rename_i q; rcases q with q | q <;> subst q <;> decide)
theorem jends_in {s : Nat} (h : jends s = true) : jmid s = true := by
  have := Go.Proofs.PlatenJson.ends_iff.1 h
  rcases this with rfl | rfl | rfl | rfl <;> rfl
theorem jatom_st (c : Jc) : (jatom c).st = 4 ∨ (jatom c).st = 5 := by
  cases h : c.nm <;> simp [jatom, h]
theorem jatom_mid (c : Jc) : jmid (jatom c).st = false := by
  rcases jatom_st c with h | h <;> rw [h] <;> rfl
theorem jbegin_shape (c : Jc) (b : Nat) : jbegin c b = .bad ∨ (∃ c', jbegin c b = .whole 1 c' ∧ jmid c'.st = false) ∨ ∃ c', jbegin c b = .start c' ∧ jmid c'.st = true := by
  unfold jbegin
  repeat' split
  all_goals first
    | exact Or.inl rfl
    | exact Or.inr (Or.inr ⟨_, rfl, rfl⟩)
    | (refine Or.inr (Or.inl ⟨_, rfl, ?_⟩); first | rfl | (show jmid (if b = 123 then 2 else 1) = false; split <;> rfl))
theorem jnext_shape (c : Jc) (b : Nat) : jnext c b = .bad ∨ (∃ k c', jnext c b = .whole k c' ∧ jmid c'.st = false) := by
  unfold jnext
  repeat' split
  all_goals first
    | exact Or.inl rfl
    | exact Or.inr ⟨_, _, rfl, rfl⟩
theorem jf0_shape (c : Jc) (b : Nat) : jf0 c b = .bad ∨ (jf0 c b = .blank ∧ isB b = true) ∨ (∃ k c', jf0 c b = .whole k c' ∧ jmid c'.st = false) ∨ ∃ c', jf0 c b = .start c' ∧ jmid c'.st = true := by
  have hb : jbegin c b = .bad ∨ (jbegin c b = .blank ∧ isB b = true) ∨ (∃ k c', jbegin c b = .whole k c' ∧ jmid c'.st = false) ∨ ∃ c', jbegin c b = .start c' ∧ jmid c'.st = true := by
    rcases jbegin_shape c b with h | ⟨c', h⟩ | h
    · exact Or.inl h
    · exact Or.inr (Or.inr (Or.inl ⟨1, c', h⟩))
    · exact Or.inr (Or.inr (Or.inr h))
  have hn : jnext c b = .bad ∨ (jnext c b = .blank ∧ isB b = true) ∨ (∃ k c', jnext c b = .whole k c' ∧ jmid c'.st = false) ∨ ∃ c', jnext c b = .start c' ∧ jmid c'.st = true := by
    rcases jnext_shape c b with h | h
    · exact Or.inl h
    · exact Or.inr (Or.inr (Or.inl h))
  unfold jf0
  repeat' split
  all_goals first
    | exact hb
    | exact hn
    | exact Or.inl rfl
    | exact Or.inr (Or.inl ⟨rfl, by assumption⟩)
    | exact Or.inr (Or.inr (Or.inl ⟨_, _, rfl, rfl⟩))
    | exact Or.inr (Or.inr (Or.inr ⟨_, rfl, rfl⟩))
theorem jinside_shape (c : Jc) (b : Nat) : jinside c b = .bad ∨ (∃ c', jinside c b = .last 5 c' ∧ jmid c'.st = false) ∨ ∃ c', jinside c b = .more c' ∧ jmid c'.st = true := by
  unfold jinside
  repeat' split
  all_goals first
    | exact Or.inl rfl
    | exact Or.inr (Or.inl ⟨_, rfl, jatom_mid _⟩)
    | exact Or.inr (Or.inr ⟨_, rfl, rfl⟩)
    | (refine Or.inr (Or.inr ⟨_, rfl, ?_⟩); simp_all [jmid]; done)
    | (refine Or.inr (Or.inr ⟨_, rfl, ?_⟩); show jmid (if c.cnt - 1 = 0 then 6 else 8) = true; split <;> rfl)
theorem jf1_shape (c : Jc) (b : Nat) : jf1 c b = none ∨ jf1 c b = some .bad ∨ (∃ c', jf1 c b = some (.last 5 c') ∧ jmid c'.st = false) ∨ ∃ c', jf1 c b = some (.more c') ∧ jmid c'.st = true := by
  unfold jf1
  split
  · split
    · rename_i h
      have := numb_in h
      exact Or.inr (Or.inr (Or.inr ⟨_, rfl, by simp [jmid]; omega⟩))
    · split
      · exact Or.inl rfl
      · rcases jinside_shape c b with h | ⟨c', h, h2⟩ | ⟨c', h, h2⟩
        · exact Or.inr (Or.inl (by rw [h]))
        · exact Or.inr (Or.inr (Or.inl ⟨c', by rw [h], h2⟩))
        · exact Or.inr (Or.inr (Or.inr ⟨c', by rw [h], h2⟩))
  · exact Or.inl rfl
theorem jm_ok : Ok JM := by
  constructor
  · intro c k c' h
    simp only [JM] at h ⊢
    split at h
    · rename_i he
      injection h with h; injection h with h1 h2; subst h1 h2
      exact ⟨jends_in he, jatom_mid c, rfl⟩
    · cases h
  · intro c b c' h
    rcases jf0_shape c b with q | ⟨q, _⟩ | ⟨k, x, q, _⟩ | ⟨x, q, q2⟩
    · (have z := q.symm.trans h; first | (cases z; done) | (injection z with z; cases z; done))
    · (have z := q.symm.trans h; first | (cases z; done) | (injection z with z; cases z; done))
    · (have z := q.symm.trans h; first | (cases z; done) | (injection z with z; cases z; done))
    · have := q.symm.trans h; injection this with this; subst this; exact q2
  · intro c b k c' h
    rcases jf0_shape c b with q | ⟨q, _⟩ | ⟨k, x, q, q2⟩ | ⟨x, q, q2⟩
    · (have z := q.symm.trans h; first | (cases z; done) | (injection z with z; cases z; done))
    · (have z := q.symm.trans h; first | (cases z; done) | (injection z with z; cases z; done))
    · have := q.symm.trans h; injection this with _ this; subst this; exact q2
    · (have z := q.symm.trans h; first | (cases z; done) | (injection z with z; cases z; done))
  · intro c b c' h
    rcases jf0_shape c b with q | ⟨q, _⟩ | ⟨k, x, q, q2⟩ | ⟨x, q, q2⟩ <;> (have z := q.symm.trans h; first | (cases z; done) | (injection z with z; cases z; done))
  · intro c b k c' h
    rcases jf0_shape c b with q | ⟨q, _⟩ | ⟨k, x, q, q2⟩ | ⟨x, q, q2⟩ <;> (have z := q.symm.trans h; first | (cases z; done) | (injection z with z; cases z; done))
  · intro c b c' h
    rcases jf1_shape c b with q | q | ⟨x, q, q2⟩ | ⟨x, q, q2⟩
    · (have z := q.symm.trans h; first | (cases z; done) | (injection z with z; cases z; done))
    · (have z := q.symm.trans h; first | (cases z; done) | (injection z with z; cases z; done))
    · (have z := q.symm.trans h; first | (cases z; done) | (injection z with z; cases z; done))
    · have := q.symm.trans h; injection this with this; injection this with this; subst this; exact ⟨q2, rfl⟩
  · intro c b k c' h
    rcases jf1_shape c b with q | q | ⟨x, q, q2⟩ | ⟨x, q, q2⟩
    · (have z := q.symm.trans h; first | (cases z; done) | (injection z with z; cases z; done))
    · (have z := q.symm.trans h; first | (cases z; done) | (injection z with z; cases z; done))
    · have := q.symm.trans h; injection this with this; injection this with h1 this; subst this h1; exact ⟨q2, rfl⟩
    · (have z := q.symm.trans h; first | (cases z; done) | (injection z with z; cases z; done))
  · intro c b h
    rcases jf1_shape c b with q | q | ⟨x, q, q2⟩ | ⟨x, q, q2⟩ <;> (have z := q.symm.trans h; first | (cases z; done) | (injection z with z; cases z; done))
  · intro c b c' h
    rcases jf1_shape c b with q | q | ⟨x, q, q2⟩ | ⟨x, q, q2⟩ <;> (have z := q.symm.trans h; first | (cases z; done) | (injection z with z; cases z; done))
  · intro c b k c' h
    rcases jf1_shape c b with q | q | ⟨x, q, q2⟩ | ⟨x, q, q2⟩ <;> (have z := q.symm.trans h; first | (cases z; done) | (injection z with z; cases z; done))
  · intro c b hb hm
    show jf0 c b = .blank
    unfold jf0
    rw [if_pos hb]
  · intro c b kc hb hz
    simp only [JM] at hz
    split at hz
    · rename_i he
      show jf1 c b = none
      unfold jf1
      rw [if_pos (jends_in he), if_neg (fun q => by have := (numb_char q).1; rw [hb] at this; cases this), if_pos he]
    · cases hz
  · intro c b h
    rcases jf0_shape c b with q | ⟨_, q⟩ | ⟨k, x, q, q2⟩ | ⟨x, q, q2⟩
    · (have z := q.symm.trans h; first | (cases z; done) | (injection z with z; cases z; done))
    · exact q
    · (have z := q.symm.trans h; first | (cases z; done) | (injection z with z; cases z; done))
    · (have z := q.symm.trans h; first | (cases z; done) | (injection z with z; cases z; done))
  · intro c k c' b hz h1
    simp only [JM] at hz
    split at hz
    · rename_i he
      injection hz with hz; injection hz with hk hz; subst hk hz
      left
      have hn : (numb c.st b).2 = true := by
        by_cases q : (numb c.st b).2 = true
        · exact q
        · exfalso
          apply h1
          show jf1 c b = none
          unfold jf1
          rw [if_pos (jends_in he), if_neg q, if_pos he]
      obtain ⟨n1, n2, n3, n4, n5⟩ := numb_char hn
      show jf0 (jatom c) b = .bad
      unfold jf0
      rw [if_neg (by rw [n1]; simp)]
      rcases jatom_st c with e | e
      · rw [e, if_neg (by decide), if_neg (by decide), if_neg (by decide), if_pos rfl, if_pos n2]
      · rw [e, if_neg (by decide), if_neg (by decide), if_neg (by decide), if_neg (by decide)]
        unfold jnext
        split
        · rfl
        · rw [if_neg (fun q => n3 q.1), if_neg n3, if_neg (fun q => q.elim (fun q => n4 q.1) (fun q => n5 q.1))]
    · cases hz
end Go.Proofs.PlatenTree

/- The document's answer for JSON, without places. -/
namespace Go.Proofs.PlatenTree
set_option linter.unusedVariables false
open Go.Proofs.PlatenJson (Mc numb isD isH isE feed feedA begin' next inside atom one)

def jc (M : Mc) : Jc := ⟨M.st, M.stack, M.nm, M.left, M.cnt⟩
def JSim (p : List Nat) (i : Nat) (M : Mc) (s : St JM) : Prop :=
  s.1 = jc M ∧ s.2.2 = M.l.map (pcs p) ∧ M.st ≤ 17 ∧ (jmid M.st = true → M.fr ≤ i ∧ s.2.1 = sl p M.fr (i - M.fr)) ∧ (jmid M.st = false → s.2.1 = [])
def JBoth (p : List Nat) (i : Nat) (r : Nat × Mc) (o : Option (St JM)) : Prop :=
  match o with
  | some s' => r.1 = 0 ∧ JSim p i r.2 s'
  | none => r.1 ≠ 0
theorem JBoth.bad {p : List Nat} {i x : Nat} {M : Mc} (h : x ≠ 0) : JBoth p i (x, M) none := h
theorem fd_some {M : Mach} {s : St M} {b : Nat} {r : Rt M.C} (hm : M.mid s.1 = true) (h : M.f1 s.1 b = some r) : fd M s b = app M r s b := by simp [fd, hm, h]
theorem fd_lazy {M : Mach} {s : St M} {b k : Nat} {c : M.C} (hm : M.mid s.1 = true) (h : M.f1 s.1 b = none) (hz : M.lz s.1 = some (k, c)) : fd M s b = app M (M.f0 c b) (c, [], s.2.2 ++ [(k, s.2.1)]) b := by simp [fd, hm, h, hz]
theorem fd_out {M : Mach} {s : St M} {b : Nat} (hm : M.mid s.1 = false) : fd M s b = app M (M.f0 s.1 b) s b := by simp [fd, hm]
section
variable {p : List Nat} {i c : Nat}
theorem begin_sim (M : Mc) (h : p[i]? = some c) : JBoth p (i + 1) (begin' M c i) (app JM (jbegin (jc M) c) (jc M, [], M.l.map (pcs p)) c) := by
  have h1 := sl_one p h
  have e1 : [c] = sl p i (i + 1 - i) := by rw [show i + 1 - i = 1 by omega, h1]
  have go : ∀ M' : Mc, M'.fr = i → M'.l = M.l → M'.st ≤ 17 → jmid M'.st = true → JBoth p (i + 1) (0, M') (some (jc M', [c], M.l.map (pcs p))) := by
    intro M' a1 a2 a3 a4
    exact ⟨rfl, rfl, by rw [a2], a3, fun _ => ⟨by rw [a1]; omega, by rw [a1]; exact e1⟩, fun q => by rw [a4] at q; cases q⟩
  unfold begin' jbegin
  by_cases k1 : c = 123 ∨ c = 91
  · rw [if_pos k1, if_pos k1]
    by_cases k2 : M.stack.length = 512
    · rw [if_pos k2, if_pos (show (jc M).stack.length = 512 from k2)]; exact (by decide : (6 : Nat) ≠ 0)
    · rw [if_neg k2, if_neg (show ¬ (jc M).stack.length = 512 from k2)]
      have hst : (if c = 123 then 2 else 1) ≤ 17 ∧ jmid (if c = 123 then 2 else 1) = false := by split <;> exact ⟨by decide, rfl⟩
      exact ⟨rfl, rfl, by simp [pcs, h1], hst.1, fun q => absurd (hst.2.symm.trans q) (by simp), fun _ => rfl⟩
  rw [if_neg k1, if_neg k1]
  by_cases k2 : c = 34
  · rw [if_pos k2, if_pos k2]; exact go _ rfl rfl (by simp) rfl
  rw [if_neg k2, if_neg k2]
  by_cases k2 : c = 45
  · rw [if_pos k2, if_pos k2]; exact go _ rfl rfl (by simp) rfl
  rw [if_neg k2, if_neg k2]
  by_cases k2 : c = 48
  · rw [if_pos k2, if_pos k2]; exact go _ rfl rfl (by simp) rfl
  rw [if_neg k2, if_neg k2]
  by_cases k2 : isD c = true
  · rw [if_pos k2, if_pos k2]; exact go _ rfl rfl (by simp) rfl
  rw [if_neg k2, if_neg k2]
  by_cases k2 : c = 116
  · rw [if_pos k2, if_pos k2]; exact go _ rfl rfl (by simp) rfl
  rw [if_neg k2, if_neg k2]
  by_cases k2 : c = 102
  · rw [if_pos k2, if_pos k2]; exact go _ rfl rfl (by simp) rfl
  rw [if_neg k2, if_neg k2]
  by_cases k2 : c = 110
  · rw [if_pos k2, if_pos k2]; exact go _ rfl rfl (by simp) rfl
  rw [if_neg k2, if_neg k2]
  exact (by decide : (5 : Nat) ≠ 0)
theorem one_sim (M : Mc) (h : p[i]? = some c) (M0 : Mc) (k st : Nat) (hl : M.l = M0.l) (hst : st ≤ 5) : JBoth p (i + 1) (0, one M k i st) (some (jc (one M k i st), [], M0.l.map (pcs p) ++ [(k, [c])])) := by
  have h1 := sl_one p h
  have hm : jmid st = false := by simp [jmid]; omega
  refine ⟨rfl, rfl, ?_, ?_, fun q => ?_, fun _ => rfl⟩
  · simp [one, pcs, h1, hl]
  · show st ≤ 17; omega
  · have q : jmid st = true := q
    rw [hm] at q; cases q
theorem next_sim' (M : Mc) (h : p[i]? = some c) (r : Rt Jc) (hr : jnext (jc M) c = r) : JBoth p (i + 1) (next M c i) (app JM r (jc M, [], M.l.map (pcs p)) c) := by
  unfold next
  unfold jnext at hr
  cases hs : M.stack with
  | nil =>
    have : (jc M).stack = [] := hs
    rw [this] at hr
    subst hr
    exact (by decide : (5 : Nat) ≠ 0)
  | cons x S =>
    have : (jc M).stack = x :: S := hs
    rw [this] at hr
    simp only at hr ⊢
    by_cases k1 : c = 44 ∧ x = 91
    · rw [if_pos k1] at hr ⊢; subst hr
      have := one_sim M h M 3 0 rfl (by decide)
      simp only [one, jc, hs] at this
      simpa [app, one, jc, hs] using this
    rw [if_neg k1] at hr ⊢
    by_cases k2 : c = 44
    · rw [if_pos k2] at hr ⊢; subst hr
      have := one_sim M h M 3 3 rfl (by decide)
      simp only [one, jc, hs] at this
      simpa [app, one, jc, hs] using this
    rw [if_neg k2] at hr ⊢
    by_cases k3 : (c = 93 ∧ x = 91) ∨ (c = 125 ∧ x ≠ 91)
    · rw [if_pos k3] at hr ⊢; subst hr; exact one_sim { M with stack := S } h M 2 5 rfl (by decide)
    rw [if_neg k3] at hr ⊢
    subst hr
    exact (by decide : (5 : Nat) ≠ 0)
theorem next_sim (M : Mc) (h : p[i]? = some c) : JBoth p (i + 1) (next M c i) (app JM (jnext (jc M) c) (jc M, [], M.l.map (pcs p)) c) := next_sim' M h _ rfl
theorem feedA_sim (M : Mc) (hm : M.st ≤ 5) (h : p[i]? = some c) : JBoth p (i + 1) (feedA M c i) (app JM (jf0 (jc M) c) (jc M, [], M.l.map (pcs p)) c) := by
  have hmid : jmid M.st = false := by simp [jmid]; omega
  have hjst : (jc M).st = M.st := rfl
  unfold feedA jf0
  rw [hjst, if_neg (by omega), if_neg (by omega)]
  show JBoth p (i + 1) (if isB c = true then (0, M) else _) _
  by_cases hb : isB c = true
  · rw [if_pos hb, if_pos hb]
    exact ⟨rfl, rfl, rfl, by show M.st ≤ 17; omega, (fun q => by rw [hmid] at q; cases q), fun _ => rfl⟩
  rw [if_neg hb, if_neg hb]
  by_cases h0 : M.st = 0
  · rw [if_pos h0, if_pos h0]; exact begin_sim M h
  rw [if_neg h0, if_neg h0]
  by_cases h1 : M.st = 1
  · rw [if_pos h1, if_pos h1]
    by_cases k : c = 93
    · rw [if_pos k, if_pos k]; exact next_sim M h
    · rw [if_neg k, if_neg k]; exact begin_sim M h
  rw [if_neg h1, if_neg h1]
  by_cases h2 : M.st = 2 ∨ M.st = 3
  · rw [if_pos h2, if_pos h2]
    by_cases k : c = 125 ∧ M.st = 2
    · rw [if_pos k, if_pos k]; exact next_sim M h
    rw [if_neg k, if_neg k]
    by_cases k2 : c ≠ 34
    · rw [if_pos k2, if_pos k2]; exact (by decide : (5 : Nat) ≠ 0)
    · rw [if_neg k2, if_neg k2]
      have e1 : [c] = sl p i (i + 1 - i) := by rw [show i + 1 - i = 1 by omega, sl_one p h]
      exact ⟨rfl, rfl, rfl, (by decide : 6 ≤ 17), fun _ => ⟨Nat.le_succ _, e1⟩, fun q => by cases q⟩
  rw [if_neg h2, if_neg h2]
  by_cases h4 : M.st = 4
  · rw [if_pos h4, if_pos h4]
    by_cases k : c ≠ 58
    · rw [if_pos k, if_pos k]; exact (by decide : (5 : Nat) ≠ 0)
    · rw [if_neg k, if_neg k]; exact one_sim M h M 4 0 rfl (by decide)
  rw [if_neg h4, if_neg h4]
  exact next_sim M h
theorem more_sim (M M' : Mc) {buf : List Nat} (h : p[i]? = some c) (f1 : M.fr ≤ i) (f2 : buf = sl p M.fr (i - M.fr)) (a1 : M'.fr = M.fr) (a2 : M'.l = M.l) (a3 : M'.st ≤ 17) (a4 : jmid M'.st = true) :
    JBoth p (i + 1) (0, M') (some (jc M', buf ++ [c], M.l.map (pcs p))) := by
  have f3 := sl_snoc p f1 h
  refine ⟨rfl, rfl, by show M.l.map (pcs p) = M'.l.map (pcs p); rw [a2], a3, fun _ => ⟨by show M'.fr ≤ i + 1; omega, by show buf ++ [c] = sl p M'.fr _; rw [a1, f3, f2]⟩, fun q => ?_⟩
  have q : jmid M'.st = false := q
  rw [a4] at q; cases q
theorem atom_sim (M : Mc) {buf : List Nat} (h : p[i]? = some c) (f1 : M.fr ≤ i) (f2 : buf = sl p M.fr (i - M.fr)) : JBoth p (i + 1) (0, atom M (i + 1)) (some (jatom (jc M), [], M.l.map (pcs p) ++ [(5, buf ++ [c])])) := by
  have f3 := sl_snoc p f1 h
  have hst : (atom M (i + 1)).st = (jatom (jc M)).st := rfl
  have hm := jatom_mid (jc M)
  refine ⟨rfl, rfl, ?_, ?_, fun q => ?_, fun _ => rfl⟩
  · simp [atom, pcs, f3, f2]
  · show (atom M (i + 1)).st ≤ 17; rw [hst]; rcases jatom_st (jc M) with e | e <;> rw [e] <;> decide
  · have q : jmid (atom M (i + 1)).st = true := q
    rw [hst, hm] at q; cases q
theorem inside_sim' (M : Mc) {buf : List Nat} (r : Rt Jc) (hr : jinside (jc M) c = r) (h : p[i]? = some c) (hs : M.st = 6 ∨ M.st = 7 ∨ M.st = 8 ∨ M.st = 17) (f1 : M.fr ≤ i) (f2 : buf = sl p M.fr (i - M.fr)) :
    JBoth p (i + 1) (inside M c i) (app JM r (jc M, buf, M.l.map (pcs p)) c) := by
  have hjst : (jc M).st = M.st := rfl
  unfold inside
  unfold jinside at hr
  rw [hjst] at hr
  by_cases h6 : M.st = 6
  · rw [if_pos h6] at hr ⊢
    by_cases k : c < 32
    · rw [if_pos k] at hr ⊢; subst hr; exact (by decide : (5 : Nat) ≠ 0)
    rw [if_neg k] at hr ⊢
    by_cases k : c = 34
    · rw [if_pos k] at hr ⊢; subst hr; exact atom_sim M h f1 f2
    rw [if_neg k] at hr ⊢
    by_cases k : c = 92
    · rw [if_pos k] at hr ⊢; subst hr; exact more_sim M _ h f1 f2 rfl rfl (by simp) rfl
    rw [if_neg k] at hr ⊢
    subst hr
    exact more_sim M M h f1 f2 rfl rfl (by omega) (by rw [h6]; rfl)
  rw [if_neg h6] at hr ⊢
  by_cases h7 : M.st = 7
  · rw [if_pos h7] at hr ⊢
    by_cases k : c = 117
    · rw [if_pos k] at hr ⊢; subst hr; exact more_sim M _ h f1 f2 rfl rfl (by simp) rfl
    rw [if_neg k] at hr ⊢
    by_cases k : isE c = true
    · rw [if_pos k] at hr ⊢; subst hr; exact more_sim M _ h f1 f2 rfl rfl (by simp) rfl
    rw [if_neg k] at hr ⊢
    subst hr
    exact (by decide : (5 : Nat) ≠ 0)
  rw [if_neg h7] at hr ⊢
  by_cases h8 : M.st = 8
  · rw [if_pos h8] at hr ⊢
    by_cases k : isH c = true
    · rw [if_pos k] at hr ⊢
      have hst : (if M.cnt - 1 = 0 then 6 else 8) ≤ 17 ∧ jmid (if M.cnt - 1 = 0 then 6 else 8) = true := by split <;> exact ⟨by decide, rfl⟩
      subst hr
      exact more_sim M _ h f1 f2 rfl rfl hst.1 hst.2
    rw [if_neg k] at hr ⊢
    subst hr
    exact (by decide : (5 : Nat) ≠ 0)
  have h17 : M.st = 17 := by omega
  rw [if_neg h8] at hr ⊢
  rw [if_pos h17] at hr
  cases hl : M.left with
  | nil =>
    have : (jc M).left = [] := hl
    rw [this] at hr
    subst hr
    exact (by decide : (5 : Nat) ≠ 0)
  | cons x r' =>
    have : (jc M).left = x :: r' := hl
    rw [this] at hr
    simp only at hr ⊢
    by_cases k : c ≠ x
    · rw [if_pos k] at hr ⊢; subst hr; exact (by decide : (5 : Nat) ≠ 0)
    rw [if_neg k] at hr ⊢
    by_cases k : r' = []
    · rw [if_pos k] at hr ⊢; subst hr; exact atom_sim { M with left := r' } h f1 f2
    rw [if_neg k] at hr ⊢
    subst hr
    exact more_sim M { M with left := r' } h f1 f2 rfl rfl (by show M.st ≤ 17; omega) (by show jmid M.st = true; rw [h17]; rfl)
theorem inside_sim (M : Mc) {buf : List Nat} (h : p[i]? = some c) (hs : M.st = 6 ∨ M.st = 7 ∨ M.st = 8 ∨ M.st = 17) (f1 : M.fr ≤ i) (f2 : buf = sl p M.fr (i - M.fr)) :
    JBoth p (i + 1) (inside M c i) (app JM (jinside (jc M) c) (jc M, buf, M.l.map (pcs p)) c) := inside_sim' M _ rfl h hs f1 f2
theorem jfeed_sim (M : Mc) (s : St JM) (hs : JSim p i M s) (h : p[i]? = some c) : JBoth p (i + 1) (feed M c i) (fd JM s c) := by
  obtain ⟨s1, buf, P⟩ := s
  obtain ⟨e1, e2, e5, e3, e4⟩ := hs
  simp only at e1 e2 e3 e4
  subst e1 e2
  unfold feed
  cases hm : jmid M.st with
  | true =>
    obtain ⟨f1, f2⟩ := e3 hm
    by_cases hn : (numb M.st c).2 = true
    · rw [if_pos hn]
      have ef : fd JM (jc M, buf, M.l.map (pcs p)) c = some ({ jc M with st := (numb M.st c).1 }, buf ++ [c], M.l.map (pcs p)) := by
        have h1 : JM.f1 (jc M) c = some (.more { jc M with st := (numb M.st c).1 }) := by
          show jf1 (jc M) c = _
          unfold jf1
          rw [if_pos (show jmid (jc M).st = true from hm), if_pos (show (numb (jc M).st c).2 = true from hn)]
          rfl
        exact fd_some (M := JM) (s := ((jc M, buf, M.l.map (pcs p)) : St JM)) (show JM.mid (jc M) = true from hm) h1
      rw [ef]
      have hin := numb_in hn
      exact more_sim M { M with st := (numb M.st c).1 } h f1 f2 rfl rfl (by show (numb M.st c).1 ≤ 17; omega) (by show jmid (numb M.st c).1 = true; simp [jmid]; omega)
    rw [if_neg hn]
    by_cases he : Go.Proofs.PlatenJson.ends M.st = true
    · rw [if_pos he]
      have ef : fd JM (jc M, buf, M.l.map (pcs p)) c = app JM (jf0 (jatom (jc M)) c) (jatom (jc M), [], (atom M i).l.map (pcs p)) c := by
        have h1 : JM.f1 (jc M) c = none := by
          show jf1 (jc M) c = _
          unfold jf1
          rw [if_pos (show jmid (jc M).st = true from hm), if_neg (show ¬ (numb (jc M).st c).2 = true from hn), if_pos (show jends (jc M).st = true from he)]
          rfl
        have h2 : JM.lz (jc M) = some (5, jatom (jc M)) := by
          show (if jends (jc M).st = true then some (5, jatom (jc M)) else none) = _
          rw [if_pos (show jends (jc M).st = true from he)]
        have h3 := fd_lazy (M := JM) (s := ((jc M, buf, M.l.map (pcs p)) : St JM)) (show JM.mid (jc M) = true from hm) h1 h2
        have h4 : (atom M i).l.map (pcs p) = M.l.map (pcs p) ++ [(5, buf)] := by simp [atom, pcs, f2]
        rw [h4]
        exact h3
      rw [ef]
      have hle : (atom M i).st ≤ 5 := by
        have hst : (atom M i).st = (jatom (jc M)).st := rfl
        rw [hst]; rcases jatom_st (jc M) with e | e <;> rw [e] <;> decide
      exact feedA_sim (atom M i) hle h
    · rw [if_neg he]
      have ef : fd JM (jc M, buf, M.l.map (pcs p)) c = app JM (jinside (jc M) c) (jc M, buf, M.l.map (pcs p)) c := by
        have h1 : JM.f1 (jc M) c = some (jinside (jc M) c) := by
          show jf1 (jc M) c = _
          unfold jf1
          rw [if_pos (show jmid (jc M).st = true from hm), if_neg (show ¬ (numb (jc M).st c).2 = true from hn), if_neg (show ¬ jends (jc M).st = true from he)]
        exact fd_some (M := JM) (s := ((jc M, buf, M.l.map (pcs p)) : St JM)) (show JM.mid (jc M) = true from hm) h1
      rw [ef]
      unfold feedA
      by_cases hi : M.st = 6 ∨ M.st = 7 ∨ M.st = 8 ∨ M.st = 17
      · rw [if_pos hi]; exact inside_sim M h hi f1 f2
      · have hq : M.st = 9 ∨ M.st = 12 ∨ M.st = 14 ∨ M.st = 15 := by
          have h3 : ¬ (M.st = 10 ∨ M.st = 11 ∨ M.st = 13 ∨ M.st = 16) := fun q => he (Go.Proofs.PlatenJson.ends_iff.2 q)
          simp [jmid] at hm
          omega
        rw [if_neg hi, if_pos hq]
        have hb : jinside (jc M) c = .bad := by
          have hjst : (jc M).st = M.st := rfl
          unfold jinside
          rw [hjst, if_neg (by omega), if_neg (by omega), if_neg (by omega), if_neg (by omega)]
        rw [hb]
        exact (by decide : (5 : Nat) ≠ 0)
  | false =>
    have eb := e4 hm
    subst eb
    have hle : M.st ≤ 5 := by simp [jmid] at hm; omega
    have hn : ¬ (numb M.st c).2 = true := fun q => by have := (numb_in q).1; omega
    have he : ¬ Go.Proofs.PlatenJson.ends M.st = true := fun q => by have := Go.Proofs.PlatenJson.ends_iff.1 q; omega
    rw [if_neg hn, if_neg he]
    have ef : fd JM (jc M, [], M.l.map (pcs p)) c = app JM (jf0 (jc M) c) (jc M, [], M.l.map (pcs p)) c := by
      exact fd_out (M := JM) (s := ((jc M, [], M.l.map (pcs p)) : St JM)) (show JM.mid (jc M) = false from hm)
    rw [ef]
    exact feedA_sim M hle h
end
end Go.Proofs.PlatenTree

/- The document's answer for JSON and its tokens' bytes; with other blanks between. -/
namespace Go.Proofs.PlatenTree
set_option linter.unusedVariables false
open Go.Proofs.PlatenJson (Mc feed atom)

theorem fin_lazy {M : Mach} {s : St M} {k : Nat} {c : M.C} (hm : M.mid s.1 = true) (hz : M.lz s.1 = some (k, c)) : fin M s = if M.good c = true then some (s.2.2 ++ [(k, s.2.1)]) else none := by simp [fin, hm, hz]
theorem fin_mid {M : Mach} {s : St M} (hm : M.mid s.1 = true) (hz : M.lz s.1 = none) : fin M s = none := by simp [fin, hm, hz]
theorem fin_out {M : Mach} {s : St M} (hm : M.mid s.1 = false) : fin M s = if M.good s.1 = true then some s.2.2 else none := by simp [fin, hm]
theorem jgood_iff (c : Jc) : JM.good c = true ↔ c.st = 5 ∧ c.stack = [] := by
  show (decide (c.st = 5) && c.stack.isEmpty) = true ↔ _
  simp
theorem finA_sim {p : List Nat} {n : Nat} (M : Mc) {P : List Pc} (hP : M.l.map (pcs p) = P) : Ans p (Go.Proofs.PlatenJson.finA M n) (if JM.good (jc M) = true then some P else none) := by
  unfold Go.Proofs.PlatenJson.finA
  by_cases h : M.st ≠ 5 ∨ M.stack ≠ []
  · rw [if_pos h, if_neg (fun q => by have := (jgood_iff (jc M)).1 q; exact h.elim (fun a => a this.1) (fun a => a this.2))]
    exact (by decide : (5 : Nat) ≠ 0)
  · have h1 : M.st = 5 := Classical.byContradiction fun q => h (Or.inl q)
    have h2 : M.stack = [] := Classical.byContradiction fun q => h (Or.inr q)
    rw [if_neg h, if_pos ((jgood_iff (jc M)).2 ⟨h1, h2⟩)]
    exact ⟨_, rfl, hP⟩
theorem jfin_sim {p : List Nat} (M : Mc) (s : St JM) (hs : JSim p p.length M s) : Ans p (Go.Proofs.PlatenJson.fin' M p.length) (fin JM s) := by
  obtain ⟨s1, buf, P⟩ := s
  obtain ⟨e1, e2, e5, e3, e4⟩ := hs
  simp only at e1 e2 e3 e4
  subst e1 e2
  unfold Go.Proofs.PlatenJson.fin'
  by_cases he : Go.Proofs.PlatenJson.ends M.st = true
  · have hm : jmid M.st = true := jends_in he
    obtain ⟨f1, f2⟩ := e3 hm
    rw [if_pos he]
    have hz : JM.lz (jc M) = some (5, jatom (jc M)) := by
      show (if jends (jc M).st = true then some (5, jatom (jc M)) else none) = _
      rw [if_pos (show jends (jc M).st = true from he)]
    have ef := fin_lazy (M := JM) (s := ((jc M, buf, M.l.map (pcs p)) : St JM)) (show JM.mid (jc M) = true from hm) hz
    rw [ef]
    have := finA_sim (p := p) (n := p.length) (atom M p.length) (P := M.l.map (pcs p) ++ [(5, buf)]) (by simp [atom, pcs, f2])
    exact this
  · rw [if_neg he]
    cases hm : jmid M.st with
    | true =>
      have hz : JM.lz (jc M) = none := by
        show (if jends (jc M).st = true then some (5, jatom (jc M)) else none) = _
        rw [if_neg (show ¬ jends (jc M).st = true from he)]
        rfl
      have ef := fin_mid (M := JM) (s := ((jc M, buf, M.l.map (pcs p)) : St JM)) (show JM.mid (jc M) = true from hm) hz
      rw [ef]
      unfold Go.Proofs.PlatenJson.finA
      rw [if_pos (Or.inl (fun q => by rw [q] at hm; cases hm))]
      exact (by decide : (5 : Nat) ≠ 0)
    | false =>
      have ef := fin_out (M := JM) (s := ((jc M, buf, M.l.map (pcs p)) : St JM)) (show JM.mid (jc M) = false from hm)
      rw [ef]
      exact finA_sim M rfl
theorem jrun_sim (p : List Nat) : ∀ k i (M : Mc) (s : St JM), i + k = p.length → JSim p i M s → Ans p (Go.Proofs.PlatenJson.run (fun j => p.getD j 0) k i M) (match run JM (p.drop i) s with | some s' => fin JM s' | none => none)
  | 0, i, M, s, hi, hs => by
    obtain rfl : i = p.length := by omega
    rw [List.drop_length]
    exact jfin_sim M s hs
  | k + 1, i, M, s, hi, hs => by
    have hlt : i < p.length := by omega
    have hc : p[i]? = some p[i] := List.getElem?_eq_getElem hlt
    have hg : p.getD i 0 = p[i] := by rw [List.getD_eq_getElem?_getD, hc]; rfl
    have hf := jfeed_sim M s hs hc
    rw [List.drop_eq_getElem_cons hlt, run_cons]
    have hfeed : feed M ((fun j => p.getD j 0) i) i = feed M p[i] i := by show feed M (p.getD i 0) i = _; rw [hg]
    show Ans p (if (feed M ((fun j => p.getD j 0) i) i).1 = 0 then Go.Proofs.PlatenJson.run (fun j => p.getD j 0) k (i + 1) (feed M ((fun j => p.getD j 0) i) i).2 else ([], i, (feed M ((fun j => p.getD j 0) i) i).1)) _
    rw [hfeed]
    cases ho : fd JM s p[i] with
    | none =>
      rw [ho] at hf
      have h0 : (feed M p[i] i).1 ≠ 0 := hf
      rw [if_neg h0]
      exact h0
    | some s' =>
      rw [ho] at hf
      have h0 : (feed M p[i] i).1 = 0 ∧ JSim p (i + 1) (feed M p[i] i).2 s' := hf
      rw [if_pos h0.1]
      exact jrun_sim p k (i + 1) _ s' (by omega) h0.2
theorem aj_no (g : Nat → List Nat) : ∀ (P : List Pc) (pk k : Nat), Aj false g pk k P
  | [], _, _ => trivial
  | x :: r, _, k => ⟨(fun h => by cases h), aj_no g r x.1 (k + 1)⟩
def j0 : Jc := ⟨0, [], false, [], 0⟩
/-- The document's answer of a text, and its tokens' bytes. -/
theorem json_ans (p : List Nat) : Ans p (Go.Proofs.PlatenJson.ans (fun j => p.getD j 0) p.length) (read JM j0 p) := by
  have h := jrun_sim p p.length 0 Go.Proofs.PlatenJson.M0 (j0, [], []) (by omega) ⟨rfl, rfl, (by decide : 0 ≤ 17), (fun q => by cases q), fun _ => rfl⟩
  rw [List.drop_zero] at h
  unfold Go.Proofs.PlatenJson.ans Go.Proofs.PlatenJson.out read
  rw [Nat.sub_zero]
  generalize run JM p (j0, [], []) = o at h ⊢
  cases o with
  | none => exact h
  | some s => exact h
/-- What is read as tokens is read so with any blanks between, where two atoms keep one. -/
theorem json_glue {g : Nat → List Nat} (hg : ∀ k, ∀ b ∈ g k, isB b = true) {p : List Nat} {P : List Pc} (h : read JM j0 p = some P) : read JM j0 (glue g 0 P) = some P := by
  unfold read at h ⊢
  cases hr : run JM p (j0, [], []) with
  | none => rw [hr] at h; cases h
  | some sf =>
    rw [hr] at h
    obtain ⟨uf, h1, h2⟩ := reads_glue jm_ok hg (c := j0) rfl hr h (aj_no g P 0 0)
    rw [h1]
    exact h2
end Go.Proofs.PlatenTree

/- A tree's items; what is laid out of them is the tokens with blanks between: it is read as the same. -/
namespace Go.Proofs.PlatenTree
set_option linter.unusedVariables false
open Go.Proofs.PlatenLayout (It Ly lay stepL s0 sp most)

def txt (ch : List Nat → Nat) (x : List Nat) : It := ⟨1, x, ch x, 0, 0, false, false⟩
def bk (n off : Int) : It := ⟨2, [], 0, n, off, false, false⟩
def bgn (off : Int) (col whole : Bool) : It := ⟨3, [], 0, 0, off, col, whole⟩
def en : It := ⟨4, [], 0, 0, 0, false, false⟩
def pre (s : Bool) (pk : Nat) (t : Pc) : List It :=
  if s = true ∧ t.1 ≠ 2 ∧ (pk = 5 ∨ pk = 2) then [bk 1 0] else if s = false ∧ t.1 = 2 ∧ pk ≠ 1 then [bk 0 (-2)] else []
def tb (t : Pc) : List Nat := if t.1 = 4 then [32] else []
def itx (ch : List Nat → Nat) (t : Pc) : It := txt ch (t.2 ++ tb t)
def post (s : Bool) (pk : Nat) (t : Pc) (nk : Nat) : List It :=
  if t.1 = 1 ∧ nk ≠ 2 then (if s = true then [bgn 0 true false] else [bgn 2 false true, bk 0 0])
  else if t.1 = 2 ∧ pk ≠ 1 then [en] else if t.1 = 3 then [bk 1 0] else []
def hk (r : List Pc) : Nat := match r with | [] => 0 | x :: _ => x.1
/-- The items of tokens, ahead of which stands one of a kind. -/
def itms (ch : List Nat → Nat) (s : Bool) : Nat → List Pc → List It
  | _, [] => []
  | pk, t :: r => pre s pk t ++ (itx ch t :: (post s pk t (hk r) ++ itms ch s t.1 r))
/-- Texts as they are, blanks for breaks. -/
def Outs : List It → List Nat → Prop
  | [], q => q = []
  | x :: l, q => ∃ a q', q = a ++ q' ∧ Outs l q' ∧ (if x.kind = 1 then a = x.tx else if x.kind = 2 then (∀ b ∈ a, isB b = true) ∧ (1 ≤ x.n → a ≠ []) else a = [])
theorem sp_blank (n : Nat) : ∀ b ∈ sp n, isB b = true := fun b hb => by rw [List.eq_of_mem_replicate hb]; rfl
theorem step_outs (w : Int) (s : Ly) (x : It) (r : List It) : ∃ a, (stepL w s x r).p = s.p ++ a ∧ (if x.kind = 1 then a = x.tx else if x.kind = 2 then (∀ b ∈ a, isB b = true) ∧ (1 ≤ x.n → a ≠ []) else a = []) := by
  unfold stepL
  by_cases k1 : x.kind = 1
  · rw [if_pos k1]; exact ⟨x.tx, rfl, by rw [if_pos k1]⟩
  rw [if_neg k1]
  by_cases k3 : x.kind = 3
  · rw [if_pos k3]; exact ⟨[], (List.append_nil _).symm, by rw [if_neg k1, if_neg (by omega)]⟩
  rw [if_neg k3]
  by_cases k4 : x.kind = 4
  · rw [if_pos k4]
    refine ⟨[], ?_, by rw [if_neg k1, if_neg (by omega)]⟩
    split <;> exact (List.append_nil _).symm
  rw [if_neg k4]
  by_cases k2 : x.kind = 2
  · rw [if_pos k2]
    split
    · refine ⟨sp x.n.toNat, rfl, ?_⟩
      refine ⟨sp_blank _, fun h e => ?_⟩
      have := congrArg List.length e
      have hl : (sp x.n.toNat).length = x.n.toNat := List.length_replicate
      rw [hl] at this
      simp at this
      omega
    · refine ⟨[10] ++ sp (s.g.ind + x.off).toNat, by rw [List.append_assoc], ?_⟩
      refine ⟨fun b hb => ?_, fun _ => by simp⟩
      rcases List.mem_append.1 hb with h | h
      · simp at h; rw [h]; rfl
      · exact sp_blank _ b h
  · rw [if_neg k2]; exact ⟨[], (List.append_nil _).symm, by rw [if_neg k1, if_neg k2]⟩
theorem lay_outs (w : Int) : ∀ (l : List It) (s : Ly) (q : List Nat), lay w l s = some q → ∃ q', q = s.p ++ q' ∧ Outs l q'
  | [], s, q, h => by
    unfold lay at h
    injection h with h
    exact ⟨[], by rw [← h, List.append_nil], rfl⟩
  | x :: r, s, q, h => by
    unfold lay at h
    split at h
    · cases h
    · obtain ⟨q', e1, e2⟩ := lay_outs w r _ q h
      obtain ⟨a, e3, e4⟩ := step_outs w s x r
      exact ⟨a ++ q', by rw [e1, e3, List.append_assoc], a, q', rfl, e2, e4⟩
theorem outs_app {a b : List It} : ∀ {q : List Nat}, Outs (a ++ b) q → ∃ q1 q2, q = q1 ++ q2 ∧ Outs a q1 ∧ Outs b q2 := by
  induction a with
  | nil => exact fun h => ⟨[], _, rfl, rfl, h⟩
  | cons x r ih =>
    intro q h
    obtain ⟨c, q', e1, e2, e3⟩ := h
    obtain ⟨q1, q2, f1, f2, f3⟩ := ih e2
    exact ⟨c ++ q1, q2, by rw [e1, f1, List.append_assoc], ⟨c, q1, rfl, f2, e3⟩, f3⟩
theorem outs_blank : ∀ (l : List It), (∀ x ∈ l, x.kind ≠ 1) → ∀ q, Outs l q → ∀ b ∈ q, isB b = true
  | [], _, q, h, b, hb => by have h : q = [] := h; rw [h] at hb; cases hb
  | x :: l, hl, q, h, b, hb => by
    obtain ⟨a, q', e1, e2, e3⟩ := h
    rw [if_neg (hl x (by simp))] at e3
    rw [e1] at hb
    rcases List.mem_append.1 hb with hb | hb
    · split at e3
      · exact e3.1 b hb
      · rw [e3] at hb; cases hb
    · exact outs_blank l (fun y hy => hl y (by simp [hy])) q' e2 b hb
theorem pre_no (s : Bool) (pk : Nat) (t : Pc) : ∀ x ∈ pre s pk t, x.kind ≠ 1 := by
  unfold pre
  intro x hx
  repeat' (split at hx)
  all_goals (simp at hx; try (subst hx; decide))
theorem post_no (s : Bool) (pk : Nat) (t : Pc) (nk : Nat) : ∀ x ∈ post s pk t nk, x.kind ≠ 1 := by
  unfold post
  intro x hx
  repeat' (split at hx)
  all_goals (simp at hx; try (first | (subst hx; decide) | (rcases hx with rfl | rfl <;> decide)))
theorem glue_congr {g g' : Nat → List Nat} : ∀ (r : List Pc) (k : Nat), (∀ j, k ≤ j → g j = g' j) → glue g k r = glue g' k r
  | [], k, h => h k (Nat.le_refl _)
  | x :: r, k, h => by
    show g k ++ (x.2 ++ glue g (k + 1) r) = g' k ++ (x.2 ++ glue g' (k + 1) r)
    rw [h k (Nat.le_refl _), glue_congr r (k + 1) (fun j hj => h j (by omega))]
theorem aj_congr {a : Bool} {g g' : Nat → List Nat} : ∀ (r : List Pc) (pk k : Nat), (∀ j, k ≤ j → g j = g' j) → Aj a g pk k r → Aj a g' pk k r
  | [], _, _, _, _ => trivial
  | x :: r, pk, k, h, ha => ⟨fun h1 h2 h3 => by rw [← h k (Nat.le_refl _)]; exact ha.1 h1 h2 h3, aj_congr r x.1 (k + 1) (fun j hj => h j (by omega)) ha.2⟩
theorem itms_glue (ch : List Nat → Nat) (s : Bool) : ∀ (P : List Pc) (pk k : Nat) (q b0 : List Nat), Outs (itms ch s pk P) q → (∀ b ∈ b0, isB b = true) → ∃ g : Nat → List Nat, (∀ j, ∀ b ∈ g j, isB b = true) ∧ b0 ++ q = glue g k P ∧ Aj s g pk k P
  | [], pk, k, q, b0, h, hb => ⟨fun _ => b0, fun _ => hb, by have h : q = [] := h; rw [h, List.append_nil]; rfl, trivial⟩
  | t :: r, pk, k, q, b0, h, hb => by
    obtain ⟨a1, q1, e1, h1, h2⟩ := outs_app h
    obtain ⟨x, q2, e2, h3, h4⟩ := h2
    have h4 : x = t.2 ++ tb t := h4
    obtain ⟨a2, q3, e3, h5, h6⟩ := outs_app h3
    have hb1 : ∀ b ∈ tb t ++ a2, isB b = true := by
      intro b hbb
      rcases List.mem_append.1 hbb with hbb | hbb
      · unfold tb at hbb
        split at hbb
        · simp at hbb; rw [hbb]; rfl
        · cases hbb
      · exact outs_blank _ (post_no s pk t (hk r)) a2 h5 b hbb
    obtain ⟨g', g1, g2, g3⟩ := itms_glue ch s r t.1 (k + 1) q3 (tb t ++ a2) h6 hb1
    refine ⟨fun j => if j = k then b0 ++ a1 else g' j, fun j b hbb => ?_, ?_, ?_, ?_⟩
    · have hbb : b ∈ (if j = k then b0 ++ a1 else g' j) := hbb
      split at hbb
      · rcases List.mem_append.1 hbb with hbb | hbb
        · exact hb b hbb
        · exact outs_blank _ (pre_no s pk t) a1 h1 b hbb
      · exact g1 j b hbb
    · show b0 ++ q = (if k = k then b0 ++ a1 else g' k) ++ (t.2 ++ glue _ (k + 1) r)
      rw [if_pos rfl, glue_congr (g' := g') r (k + 1) (fun j hj => if_neg (by omega)), ← g2, e1, e2, e3, h4]
      simp [List.append_assoc]
    · intro hs hp ht
      show (if k = k then b0 ++ a1 else g' k) ≠ []
      rw [if_pos rfl]
      have ep : pre s pk t = [bk 1 0] := by unfold pre; rw [if_pos ⟨hs, by omega, Or.inl hp⟩]
      rw [ep] at h1
      obtain ⟨a, q', f1, f2, f3⟩ := h1
      have f3 : (∀ b ∈ a, isB b = true) ∧ (1 ≤ (1 : Int) → a ≠ []) := f3
      have := f3.2 (by decide)
      rw [f1]
      simp [this]
    · exact aj_congr (g := g') r t.1 (k + 1) (fun j hj => (if_neg (by omega)).symm) g3
/-- A text's tokens, as JSON or as an S-expression. -/
def rd (s : Bool) (p : List Nat) : Option (List Pc) := if s = true then read SM (0, 0) p else read JM j0 p
theorem rd_glue {s : Bool} {g : Nat → List Nat} (hg : ∀ k, ∀ b ∈ g k, isB b = true) {p : List Nat} {P : List Pc} (h : rd s p = some P) (ha : Aj s g 0 0 P) : rd s (glue g 0 P) = some P := by
  cases s with
  | true => exact sexp_glue hg h ha
  | false => exact json_glue hg h
/-- What is laid out of a tree is read as the same tokens. -/
theorem stays {s : Bool} {ch : List Nat → Nat} {w : Int} {p q : List Nat} {P : List Pc} (h : rd s p = some P) (hl : lay w (itms ch s 0 P) s0 = some q) : rd s q = some P := by
  obtain ⟨q', e1, e2⟩ := lay_outs w _ _ _ hl
  obtain ⟨g, g1, g2, g3⟩ := itms_glue ch s P 0 0 q' [] e2 (fun b hb => by cases hb)
  have e : q = glue g 0 P := by rw [e1, ← g2]; rfl
  rw [e]
  exact rd_glue g1 h g3
end Go.Proofs.PlatenTree

/- JSON in a width that has room for it: one line. -/
namespace Go.Proofs.PlatenTree
set_option linter.unusedVariables false
open Go.Proofs.PlatenLayout (It Ly lay stepL s0 sp most flatL inner sum lay_flat)
open Go.Proofs.PlatenJson (numb isD isH isE)

/-- How many are open behind tokens; none: too few. -/
def wnS (k o : Nat) : Option Nat := if k = 1 then some (o + 1) else if k = 2 then (if o = 0 then none else some (o - 1)) else if k = 3 then (if o = 0 then none else some o) else some o
def wnF : Nat → List Pc → Option Nat
  | o, [] => some o
  | o, t :: r => match wnS t.1 o with | some o' => wnF o' r | none => none
theorem wnF_snoc : ∀ (P : List Pc) (o : Nat) (x : Pc) (o' : Nat), wnF o P = some o' → wnF o (P ++ [x]) = wnS x.1 o'
  | [], o, x, o', h => by
    injection h with h
    subst h
    show (match wnS x.1 o with | some o' => some o' | none => none) = _
    cases wnS x.1 o <;> rfl
  | t :: r, o, x, o', h => by
    unfold wnF at h
    show (match wnS t.1 o with | some o' => wnF o' (r ++ [x]) | none => none) = _
    cases hs : wnS t.1 o with
    | none => rw [hs] at h; cases h
    | some o2 =>
      rw [hs] at h
      exact wnF_snoc r o2 x o' h
/-- How much a step changes what is open. -/
def Fits (n : Nat) (r : Rt Jc) : Prop :=
  match r with
  | .bad => True
  | .blank => True
  | .more c => c.stack.length = n
  | .start c => c.stack.length = n
  | .whole k c => wnS k n = some c.stack.length
  | .last k c => wnS k n = some c.stack.length
theorem jbegin_fits (c : Jc) (b : Nat) : Fits c.stack.length (jbegin c b) := by
  unfold jbegin
  repeat' split
  all_goals first | exact trivial | rfl
theorem jnext_fits (c : Jc) (b : Nat) : Fits c.stack.length (jnext c b) := by
  unfold jnext
  cases hs : c.stack with
  | nil => exact trivial
  | cons x S =>
    simp only
    repeat' split
    all_goals first | exact trivial | rfl | (simp [Fits, wnS, hs]; done)
theorem jf0_fits (c : Jc) (b : Nat) : Fits c.stack.length (jf0 c b) := by
  unfold jf0
  repeat' split
  all_goals first | exact trivial | exact jbegin_fits c b | exact jnext_fits c b | rfl
theorem jinside_fits (c : Jc) (b : Nat) : Fits c.stack.length (jinside c b) := by
  unfold jinside
  repeat' split
  all_goals first | exact trivial | rfl
theorem jf1_fits (c : Jc) (b : Nat) (r : Rt Jc) (h : jf1 c b = some r) : Fits c.stack.length r := by
  unfold jf1 at h
  split at h
  · split at h
    · injection h with h; subst h; rfl
    · split at h
      · cases h
      · injection h with h; subst h; exact jinside_fits c b
  · cases h
def Wn (s : St JM) : Prop := wnF 0 s.2.2 = some (Jc.stack s.1).length
theorem app_wn {r : Rt Jc} {s s' : St JM} {b : Nat} (hr : Fits (Jc.stack s.1).length r) (hs : Wn s) (h : app JM r s b = some s') : Wn s' := by
  cases r with
  | bad => simp [app] at h
  | blank => simp [app] at h; rw [← h]; exact hs
  | more c =>
    simp [app] at h
    rw [← h]
    show wnF 0 s.2.2 = some c.stack.length
    rw [show c.stack.length = (Jc.stack s.1).length from hr]; exact hs
  | start c =>
    simp [app] at h
    rw [← h]
    show wnF 0 s.2.2 = some c.stack.length
    rw [show c.stack.length = (Jc.stack s.1).length from hr]; exact hs
  | whole k c =>
    simp [app] at h
    rw [← h]
    show wnF 0 (s.2.2 ++ [(k, [b])]) = some c.stack.length
    rw [wnF_snoc _ _ _ _ hs]; exact hr
  | last k c =>
    simp [app] at h
    rw [← h]
    show wnF 0 (s.2.2 ++ [(k, s.2.1 ++ [b])]) = some c.stack.length
    rw [wnF_snoc _ _ _ _ hs]; exact hr
theorem fd_wn {s s' : St JM} {b : Nat} (hs : Wn s) (h : fd JM s b = some s') : Wn s' := by
  cases hm : JM.mid s.1 with
  | false =>
    rw [fd_out hm] at h
    exact app_wn (jf0_fits s.1 b) hs h
  | true =>
    cases h1 : JM.f1 s.1 b with
    | some r =>
      rw [fd_some hm h1] at h
      exact app_wn (jf1_fits s.1 b r h1) hs h
    | none =>
      cases hz : JM.lz s.1 with
      | none => simp [fd, hm, h1, hz] at h
      | some kc =>
        obtain ⟨k, c⟩ := kc
        rw [fd_lazy hm h1 hz] at h
        have hz2 : (if jends (Jc.st s.1) = true then some (5, jatom s.1) else none) = some (k, c) := hz
        split at hz2
        · injection hz2 with hz2
          injection hz2 with e1 e2
          subst e1 e2
          have hw : Wn (jatom s.1, [], s.2.2 ++ [(5, s.2.1)]) := by
            show wnF 0 (s.2.2 ++ [(5, s.2.1)]) = some (Jc.stack s.1).length
            rw [wnF_snoc _ _ _ _ hs]; rfl
          exact app_wn (s := (jatom s.1, [], s.2.2 ++ [(5, s.2.1)])) (jf0_fits (jatom s.1) b) hw h
        · cases hz2
theorem run_wn : ∀ (p : List Nat) (s s' : St JM), Wn s → run JM p s = some s' → Wn s'
  | [], s, s', hs, h => by injection h with h; rw [← h]; exact hs
  | b :: r, s, s', hs, h => by
    rw [run_cons] at h
    cases hf : fd JM s b with
    | none => rw [hf] at h; cases h
    | some s2 => rw [hf] at h; exact run_wn r s2 s' (fd_wn hs hf) h
theorem read_wn {p : List Nat} {P : List Pc} (h : read JM j0 p = some P) : ∃ o, wnF 0 P = some o := by
  unfold read at h
  cases hr : run JM p (j0, [], []) with
  | none => rw [hr] at h; cases h
  | some sf =>
    rw [hr] at h
    have hw := run_wn p _ sf (rfl : Wn (j0, [], [])) hr
    have h : fin JM sf = some P := h
    cases hm : JM.mid sf.1 with
    | false =>
      rw [fin_out hm] at h
      split at h
      · injection h with h; rw [← h]; exact ⟨_, hw⟩
      · cases h
    | true =>
      cases hz : JM.lz sf.1 with
      | none => rw [fin_mid hm hz] at h; cases h
      | some kc =>
        obtain ⟨k, c⟩ := kc
        rw [fin_lazy hm hz] at h
        split at h
        · injection h with h
          rw [← h, wnF_snoc _ _ _ _ hw]
          have hz2 : (if jends (Jc.st sf.1) = true then some (5, jatom sf.1) else none) = some (k, c) := hz
          split at hz2
          · injection hz2 with hz2; injection hz2 with e1 _; subst e1; exact ⟨_, rfl⟩
          · cases hz2
        · cases h
/-- The bytes of all tokens. -/
def tot (P : List Pc) : Nat := (P.map fun t => t.2.length).sum
theorem tot_snoc (P : List Pc) (x : Pc) : tot (P ++ [x]) = tot P + x.2.length := by simp [tot]
theorem app_tot {M : Mach} {r : Rt M.C} {s s' : St M} {b : Nat} (h : app M r s b = some s') : tot s'.2.2 + s'.2.1.length ≤ tot s.2.2 + s.2.1.length + 1 := by
  cases r <;> simp [app] at h <;> rw [← h] <;> simp [tot_snoc] <;> omega
theorem fd_tot {M : Mach} {s s' : St M} {b : Nat} (h : fd M s b = some s') : tot s'.2.2 + s'.2.1.length ≤ tot s.2.2 + s.2.1.length + 1 := by
  unfold fd at h
  split at h
  · split at h
    · exact app_tot h
    · split at h
      · have := app_tot h
        simp only [tot_snoc, List.length_nil] at this
        omega
      · cases h
  · exact app_tot h
theorem run_tot {M : Mach} : ∀ (p : List Nat) (s s' : St M), run M p s = some s' → tot s'.2.2 + s'.2.1.length ≤ tot s.2.2 + s.2.1.length + p.length
  | [], s, s', h => by injection h with h; rw [← h]; exact Nat.le_refl _
  | b :: r, s, s', h => by
    rw [run_cons] at h
    cases hf : fd M s b with
    | none => rw [hf] at h; cases h
    | some s2 =>
      rw [hf] at h
      have h1 := run_tot r s2 s' h
      have h2 := fd_tot hf
      rw [List.length_cons]
      omega
theorem read_tot {M : Mach} {c : M.C} {p : List Nat} {P : List Pc} (h : read M c p = some P) : tot P ≤ p.length := by
  unfold read at h
  cases hr : run M p (c, [], []) with
  | none => rw [hr] at h; cases h
  | some sf =>
    rw [hr] at h
    have h1 := run_tot p _ sf hr
    have h : fin M sf = some P := h
    have h0 : tot (([] : List Pc)) = 0 := rfl
    simp only [h0, List.length_nil] at h1
    unfold fin at h
    split at h
    · split at h
      · split at h
        · injection h with h; rw [← h, tot_snoc]; simp only; omega
        · cases h
      · cases h
    · split at h
      · injection h with h; rw [← h]; omega
      · cases h
/-- The tokens on one line. -/
def want : List Pc → List Nat
  | [] => []
  | t :: r => t.2 ++ (if t.1 = 3 ∨ t.1 = 4 then [32] else []) ++ want r
theorem flat_app (a b : List It) : flatL (a ++ b) = flatL a ++ flatL b := by
  induction a with
  | nil => rfl
  | cons x r ih => show _ ++ flatL (r ++ b) = (_ ++ flatL r) ++ flatL b; rw [ih, List.append_assoc]
theorem flat_pre (pk : Nat) (t : Pc) : flatL (pre false pk t) = [] := by
  unfold pre
  rw [if_neg (fun q => by cases q.1)]
  split <;> rfl
theorem flat_post (pk : Nat) (t : Pc) (nk : Nat) : flatL (post false pk t nk) = if t.1 = 3 then [32] else [] := by
  unfold post
  by_cases k1 : t.1 = 1 ∧ nk ≠ 2
  · rw [if_pos k1, if_neg (by simp), if_neg (by omega)]; rfl
  rw [if_neg k1]
  by_cases k2 : t.1 = 2 ∧ pk ≠ 1
  · rw [if_pos k2, if_neg (by omega)]; rfl
  rw [if_neg k2]
  by_cases k3 : t.1 = 3
  · rw [if_pos k3, if_pos k3]; rfl
  · rw [if_neg k3, if_neg k3]; rfl
theorem flat_itms (ch : List Nat → Nat) : ∀ (P : List Pc) (pk : Nat), flatL (itms ch false pk P) = want P
  | [], pk => rfl
  | t :: r, pk => by
    show flatL (pre false pk t ++ (itx ch t :: (post false pk t (hk r) ++ itms ch false t.1 r))) = _
    rw [flat_app, flat_pre]
    show (t.2 ++ tb t) ++ flatL (post false pk t (hk r) ++ itms ch false t.1 r) = t.2 ++ (if t.1 = 3 ∨ t.1 = 4 then [32] else []) ++ want r
    rw [flat_app, flat_post, flat_itms ch r t.1]
    unfold tb
    by_cases k4 : t.1 = 4
    · rw [if_pos k4, if_neg (by omega), if_pos (Or.inr k4)]; simp
    · rw [if_neg k4]
      by_cases k3 : t.1 = 3
      · rw [if_pos k3, if_pos (Or.inl k3)]; simp
      · rw [if_neg k3, if_neg (by omega)]; simp
theorem want_len : ∀ (P : List Pc), (∀ t ∈ P, t.1 = 3 ∨ t.1 = 4 → 1 ≤ t.2.length) → (want P).length ≤ 2 * tot P
  | [], h => Nat.le_refl _
  | t :: r, h => by
    have h1 := want_len r (fun x hx => h x (by simp [hx]))
    have h2 := h t (by simp)
    have e : tot (t :: r) = t.2.length + tot r := by simp [tot]
    unfold want
    rw [e, List.length_append, List.length_append]
    split
    · rename_i q; have := h2 q; simp; omega
    · simp; omega
theorem inner_itms (ch : List Nat → Nat) : ∀ (P : List Pc) (pk o d o' : Nat), wnF o P = some o' → (if pk = 1 ∧ hk P = 2 then d + 1 = o else d = o) → inner (itms ch false pk P) d
  | [], pk, o, d, o', h, hd => trivial
  | t :: r, pk, o, d, o', h, hd => by
    unfold wnF at h
    have hkt : hk (t :: r) = t.1 := rfl
    rw [hkt] at hd
    cases hs : wnS t.1 o with
    | none => rw [hs] at h; cases h
    | some o2 =>
      rw [hs] at h
      have ih := inner_itms ch r t.1 o2
      show inner (pre false pk t ++ (itx ch t :: (post false pk t (hk r) ++ itms ch false t.1 r))) d
      unfold wnS at hs
      by_cases k1 : t.1 = 1
      · rw [if_pos k1] at hs
        injection hs with hs
        rw [if_neg (by omega)] at hd
        have epre : pre false pk t = [] := by unfold pre; rw [if_neg (fun q => by cases q.1), if_neg (by omega)]
        by_cases hn : hk r = 2
        · have epost : post false pk t (hk r) = [] := by unfold post; rw [if_neg (fun q => q.2 hn), if_neg (by omega), if_neg (by omega)]
          rw [epre, epost]
          show inner (itms ch false t.1 r) d
          exact ih d o' h (by rw [if_pos ⟨k1, hn⟩]; omega)
        · have epost : post false pk t (hk r) = [bgn 2 false true, bk 0 0] := by unfold post; rw [if_pos ⟨k1, hn⟩, if_neg (by simp)]
          rw [epre, epost]
          show 0 < d + 1 ∧ inner (itms ch false t.1 r) (d + 1)
          exact ⟨by omega, ih (d + 1) o' h (by rw [if_neg (fun q => hn q.2)]; omega)⟩
      rw [if_neg k1] at hs
      by_cases k2 : t.1 = 2
      · rw [if_pos k2] at hs
        split at hs
        · cases hs
        · rename_i ho
          injection hs with hs
          by_cases hp : pk = 1
          · rw [if_pos ⟨hp, k2⟩] at hd
            have epre : pre false pk t = [] := by unfold pre; rw [if_neg (fun q => by cases q.1), if_neg (fun q => q.2.2 hp)]
            have epost : post false pk t (hk r) = [] := by unfold post; rw [if_neg (fun q => k1 q.1), if_neg (fun q => q.2 hp), if_neg (by omega)]
            rw [epre, epost]
            show inner (itms ch false t.1 r) d
            exact ih d o' h (by rw [if_neg (by omega)]; omega)
          · rw [if_neg (fun q => hp q.1)] at hd
            have epre : pre false pk t = [bk 0 (-2)] := by unfold pre; rw [if_neg (fun q => by cases q.1), if_pos ⟨rfl, k2, hp⟩]
            have epost : post false pk t (hk r) = [en] := by unfold post; rw [if_neg (fun q => k1 q.1), if_pos ⟨k2, hp⟩]
            rw [epre, epost]
            show 0 < d ∧ inner (itms ch false t.1 r) (d - 1)
            exact ⟨by omega, ih (d - 1) o' h (by rw [if_neg (by omega)]; omega)⟩
      rw [if_neg k2] at hs
      rw [if_neg (fun q => k2 q.2)] at hd
      have epre : pre false pk t = [] := by unfold pre; rw [if_neg (fun q => by cases q.1), if_neg (fun q => k2 q.2.1)]
      by_cases k3 : t.1 = 3
      · rw [if_pos k3] at hs
        have epost : post false pk t (hk r) = [bk 1 0] := by unfold post; rw [if_neg (fun q => k1 q.1), if_neg (fun q => k2 q.1), if_pos k3]
        rw [epre, epost]
        split at hs
        · cases hs
        · rename_i ho
          injection hs with hs
          show 0 < d ∧ inner (itms ch false t.1 r) d
          exact ⟨by omega, ih d o' h (by rw [if_neg (by omega)]; omega)⟩
      · rw [if_neg k3] at hs
        have epost : post false pk t (hk r) = [] := by unfold post; rw [if_neg (fun q => k1 q.1), if_neg (fun q => k2 q.1), if_neg k3]
        rw [epre, epost]
        injection hs with hs
        show inner (itms ch false t.1 r) d
        exact ih d o' h (by rw [if_neg (fun q => k1 q.1)]; omega)
theorem sum_flat (ch : List Nat → Nat) (hch : ∀ x, ch x ≤ x.length) : ∀ (l : List It), (∀ x ∈ l, x.kind = 1 → x.ch ≤ x.tx.length) → sum l ≤ (flatL l).length
  | [], h => Nat.le_refl _
  | x :: r, h => by
    have h1 := sum_flat ch hch r (fun y hy => h y (by simp [hy]))
    have h2 := h x (by simp)
    show x.own + sum r ≤ ((if x.kind = 1 then x.tx else if x.kind = 2 then sp x.n.toNat else []) ++ flatL r).length
    rw [List.length_append]
    unfold It.own
    by_cases k1 : x.kind = 1
    · rw [if_pos k1, if_pos k1]; have := h2 k1; omega
    rw [if_neg k1, if_neg k1]
    by_cases k2 : x.kind = 2
    · rw [if_pos k2, if_pos k2]
      have : (sp x.n.toNat).length = x.n.toNat := List.length_replicate
      omega
    · rw [if_neg k2, if_neg k2]; simp; omega
theorem itms_ch (ch : List Nat → Nat) (hch : ∀ x, ch x ≤ x.length) (s : Bool) : ∀ (P : List Pc) (pk : Nat), ∀ x ∈ itms ch s pk P, x.kind = 1 → x.ch ≤ x.tx.length
  | [], pk, x, hx, k => by cases hx
  | t :: r, pk, x, hx, k => by
    rcases List.mem_append.1 hx with hx | hx
    · exact absurd k (pre_no s pk t x hx)
    · rcases List.mem_cons.1 hx with hx | hx
      · rw [hx]; exact hch _
      · rcases List.mem_append.1 hx with hx | hx
        · exact absurd k (post_no s pk t (hk r) x hx)
        · exact itms_ch ch hch s r t.1 x hx k
/-- JSON whose tokens are no more than 32768 bytes stands on one line in a width of 65536. -/
theorem flat_lay (ch : List Nat → Nat) (hch : ∀ x, ch x ≤ x.length) {p : List Nat} {P : List Pc} (h : read JM j0 p = some P) (hl : (want P).length ≤ 65536) : lay 65536 (itms ch false 0 P) s0 = some (want P) := by
  obtain ⟨o, ho⟩ := read_wn h
  have hi := inner_itms ch P 0 0 0 o ho (by rw [if_neg (by omega)])
  have hf := flat_itms ch P 0
  have hs := sum_flat ch hch _ (itms_ch ch hch false P 0)
  rw [hf] at hs
  have := lay_flat 65536 (itms ch false 0 P) s0 0 hi (by show _ ≤ (65536 : Int) - 0; omega) (by rw [hf]; show ([] ++ want P).length ≤ most; unfold most; simpa using hl) rfl (fun q => absurd q (Nat.lt_irrefl _)) (fun g hg => by cases hg)
  rw [hf] at this
  exact this
end Go.Proofs.PlatenTree

/- How long what is laid out is at most. -/
namespace Go.Proofs.PlatenTree
set_option linter.unusedVariables false
open Go.Proofs.PlatenLayout (It Ly Gr lay stepL s0 sp most size)

/-- How much further out columns may be behind an item. -/
def wt (x : It) : Nat := if x.kind = 1 then x.ch else if x.kind = 2 then x.n.toNat + x.off.toNat else if x.kind = 3 then x.off.toNat else 0
/-- How many bytes an item is at most, where no column is above A. -/
def most1 (A : Nat) (x : It) : Nat := if x.kind = 1 then x.tx.length else if x.kind = 2 then x.n.toNat + 1 + A + x.off.toNat else 0
def tsum (f : It → Nat) (l : List It) : Nat := (l.map f).sum
theorem tsum_cons (f : It → Nat) (x : It) (l : List It) : tsum f (x :: l) = f x + tsum f l := by simp [tsum]
theorem tsum_app (f : It → Nat) (a b : List It) : tsum f (a ++ b) = tsum f a + tsum f b := by simp [tsum]
structure In (A : Nat) (s : Ly) : Prop where
  col : s.col ≤ (A : Nat)
  ind : ∀ g ∈ s.g :: s.gs, g.ind ≤ (A : Nat)
theorem size_text {x : It} {r : List It} (h : x.kind = 1) : size (x :: r) = x.ch := by
  simp [size, h, It.own]
theorem step_in {A : Nat} {w : Int} {s : Ly} {x : It} {r : List It} (h : In A s) : In (A + wt x) (stepL w s x r) ∧ (stepL w s x r).p.length ≤ s.p.length + most1 A x := by
  have hc := h.col
  have hg := h.ind s.g (by simp)
  have hgs : ∀ g ∈ s.g :: s.gs, g.ind ≤ ((A + wt x : Nat) : Int) := fun g hg => by have := h.ind g hg; omega
  unfold stepL
  by_cases k1 : x.kind = 1
  · have hw : wt x = x.ch := by simp [wt, k1]
    have hm : most1 A x = x.tx.length := by simp [most1, k1]
    rw [if_pos k1, size_text k1, hm]
    exact ⟨⟨by show s.col + (x.ch : Nat) ≤ _; omega, hgs⟩, by show (s.p ++ x.tx).length ≤ _; rw [List.length_append]; exact Nat.le_refl _⟩
  rw [if_neg k1]
  by_cases k3 : x.kind = 3
  · have hw : wt x = x.off.toNat := by simp [wt, k3]
    rw [if_pos k3]
    refine ⟨⟨by show s.col ≤ _; omega, fun g hgm => ?_⟩, Nat.le_add_right _ _⟩
    rcases List.mem_cons.1 hgm with e | e
    · rw [e]
      show (if x.col then s.col else s.g.ind) + x.off ≤ _
      split <;> omega
    · exact hgs g e
  rw [if_neg k3]
  by_cases k4 : x.kind = 4
  · rw [if_pos k4]
    cases hq : s.gs with
    | nil => exact ⟨⟨by show s.col ≤ _; omega, hgs⟩, Nat.le_add_right _ _⟩
    | cons y t => exact ⟨⟨by show s.col ≤ _; omega, fun g hgm => hgs g (by rw [hq]; exact List.mem_cons_of_mem _ hgm)⟩, Nat.le_add_right _ _⟩
  rw [if_neg k4]
  by_cases k2 : x.kind = 2
  · have hw : wt x = x.n.toNat + x.off.toNat := by simp [wt, k2]
    have hm : most1 A x = x.n.toNat + 1 + A + x.off.toNat := by simp [most1, k2]
    rw [if_pos k2, hm]
    split
    · refine ⟨⟨by show s.col + (x.n.toNat : Nat) ≤ _; omega, hgs⟩, ?_⟩
      show (s.p ++ sp x.n.toNat).length ≤ _
      rw [List.length_append, show (sp x.n.toNat).length = x.n.toNat from List.length_replicate]
      omega
    · refine ⟨⟨by show (((s.g.ind + x.off).toNat : Nat) : Int) ≤ _; omega, hgs⟩, ?_⟩
      show (s.p ++ [10] ++ sp (s.g.ind + x.off).toNat).length ≤ _
      rw [List.length_append, List.length_append, show (sp (s.g.ind + x.off).toNat).length = (s.g.ind + x.off).toNat from List.length_replicate]
      simp
      omega
  · rw [if_neg k2]
    exact ⟨⟨by show s.col ≤ _; omega, hgs⟩, Nat.le_add_right _ _⟩
theorem most1_mono {A B : Nat} (h : A ≤ B) (l : List It) : tsum (most1 A) l ≤ tsum (most1 B) l := by
  induction l with
  | nil => exact Nat.le_refl _
  | cons x r ih =>
    rw [tsum_cons, tsum_cons]
    have : most1 A x ≤ most1 B x := by
      unfold most1
      split
      · exact Nat.le_refl _
      · split
        · omega
        · exact Nat.le_refl _
    omega
/-- Nothing is too much, where the columns' bound leaves room. -/
theorem lay_room (w : Int) (B : Nat) : ∀ (l : List It) (s : Ly) (A : Nat), In A s → A + tsum wt l ≤ B → s.p.length + tsum (most1 B) l ≤ most → ∃ q, lay w l s = some q
  | [], s, A, h, hA, hm => ⟨s.p, rfl⟩
  | x :: r, s, A, h, hA, hm => by
    rw [tsum_cons] at hA hm
    obtain ⟨h1, h2⟩ := step_in (w := w) (x := x) (r := r) h
    have h3 : most1 A x ≤ most1 B x := by
      have := most1_mono (show A ≤ B by omega) [x]
      simpa [tsum] using this
    unfold lay
    rw [if_neg (by omega)]
    exact lay_room w B r _ (A + wt x) h1 (by omega) (by omega)
/-- The same where no group stands in from a column. -/
structure In2 (A : Nat) (s : Ly) : Prop where
  ind : ∀ g ∈ s.g :: s.gs, g.ind ≤ (A : Nat)
def wt2 (x : It) : Nat := if x.kind = 3 then x.off.toNat else 0
theorem step_in2 {A : Nat} {w : Int} {s : Ly} {x : It} {r : List It} (h : In2 A s) (hx : x.kind = 3 → x.col = false) : In2 (A + wt2 x) (stepL w s x r) ∧ (stepL w s x r).p.length ≤ s.p.length + most1 A x := by
  have hg := h.ind s.g (by simp)
  have hgs : ∀ g ∈ s.g :: s.gs, g.ind ≤ ((A + wt2 x : Nat) : Int) := fun g hg => by have := h.ind g hg; omega
  unfold stepL
  by_cases k1 : x.kind = 1
  · have hm : most1 A x = x.tx.length := by simp [most1, k1]
    rw [if_pos k1, hm]
    exact ⟨⟨hgs⟩, by show (s.p ++ x.tx).length ≤ _; rw [List.length_append]; exact Nat.le_refl _⟩
  rw [if_neg k1]
  by_cases k3 : x.kind = 3
  · have hw : wt2 x = x.off.toNat := by simp [wt2, k3]
    rw [if_pos k3, hx k3]
    refine ⟨⟨fun g hgm => ?_⟩, Nat.le_add_right _ _⟩
    rcases List.mem_cons.1 hgm with e | e
    · rw [e]
      show (if false = true then s.col else s.g.ind) + x.off ≤ _
      rw [if_neg (by simp)]
      omega
    · exact hgs g e
  rw [if_neg k3]
  by_cases k4 : x.kind = 4
  · rw [if_pos k4]
    cases hq : s.gs with
    | nil => exact ⟨⟨hgs⟩, Nat.le_add_right _ _⟩
    | cons y t => exact ⟨⟨fun g hgm => hgs g (by rw [hq]; exact List.mem_cons_of_mem _ hgm)⟩, Nat.le_add_right _ _⟩
  rw [if_neg k4]
  by_cases k2 : x.kind = 2
  · have hm : most1 A x = x.n.toNat + 1 + A + x.off.toNat := by simp [most1, k2]
    rw [if_pos k2, hm]
    split
    · refine ⟨⟨hgs⟩, ?_⟩
      show (s.p ++ sp x.n.toNat).length ≤ _
      rw [List.length_append, show (sp x.n.toNat).length = x.n.toNat from List.length_replicate]
      omega
    · refine ⟨⟨hgs⟩, ?_⟩
      show (s.p ++ [10] ++ sp (s.g.ind + x.off).toNat).length ≤ _
      rw [List.length_append, List.length_append, show (sp (s.g.ind + x.off).toNat).length = (s.g.ind + x.off).toNat from List.length_replicate]
      simp
      omega
  · rw [if_neg k2]
    exact ⟨⟨hgs⟩, Nat.le_add_right _ _⟩
theorem lay_room2 (w : Int) (B : Nat) : ∀ (l : List It) (s : Ly) (A : Nat), In2 A s → (∀ x ∈ l, x.kind = 3 → x.col = false) → A + tsum wt2 l ≤ B → s.p.length + tsum (most1 B) l ≤ most → ∃ q, lay w l s = some q
  | [], s, A, h, hc, hA, hm => ⟨s.p, rfl⟩
  | x :: r, s, A, h, hc, hA, hm => by
    rw [tsum_cons] at hA hm
    obtain ⟨h1, h2⟩ := step_in2 (w := w) (x := x) (r := r) h (hc x (by simp))
    have h3 : most1 A x ≤ most1 B x := by
      have := most1_mono (show A ≤ B by omega) [x]
      simpa [tsum] using this
    unfold lay
    rw [if_neg (by omega)]
    exact lay_room2 w B r _ (A + wt2 x) h1 (fun y hy => hc y (by simp [hy])) (by omega) (by omega)
/-- For S-expressions: T bytes of tokens, b breaks. -/
def brs (s : Bool) : Nat → List Pc → Nat
  | _, [] => 0
  | pk, t :: r => (if s = true then (if t.1 ≠ 2 ∧ (pk = 5 ∨ pk = 2) then 1 else 0) else ((if t.1 = 2 ∧ pk ≠ 1 then 1 else 0) + (if t.1 = 1 ∧ hk r ≠ 2 then 1 else 0) + (if t.1 = 3 then 1 else 0))) + brs s t.1 r
end Go.Proofs.PlatenTree

/- A tree's items are never too much, where its tokens are few. -/
namespace Go.Proofs.PlatenTree
set_option linter.unusedVariables false
open Go.Proofs.PlatenLayout (It Ly Gr lay stepL s0 sp most size)

def totb (P : List Pc) : Nat := (P.map fun t => t.2.length + (tb t).length).sum
theorem totb_cons (t : Pc) (r : List Pc) : totb (t :: r) = t.2.length + (tb t).length + totb r := by simp [totb]
theorem ts_one (f : It → Nat) (x : It) : tsum f [x] = f x := by simp [tsum]
theorem ts_nil (f : It → Nat) : tsum f [] = 0 := rfl
theorem itms_cons (ch : List Nat → Nat) (s : Bool) (pk : Nat) (t : Pc) (r : List Pc) : itms ch s pk (t :: r) = pre s pk t ++ (itx ch t :: (post s pk t (hk r) ++ itms ch s t.1 r)) := rfl
/-- Breaks ahead of a token and behind it. -/
def b0 (s : Bool) (pk : Nat) (t : Pc) (nk : Nat) : Nat := if s = true then (if t.1 ≠ 2 ∧ (pk = 5 ∨ pk = 2) then 1 else 0) else ((if t.1 = 2 ∧ pk ≠ 1 then 1 else 0) + (if t.1 = 1 ∧ nk ≠ 2 then 1 else 0) + (if t.1 = 3 then 1 else 0))
theorem brs_cons (s : Bool) (pk : Nat) (t : Pc) (r : List Pc) : brs s pk (t :: r) = b0 s pk t (hk r) + brs s t.1 r := rfl
theorem b0_le (s : Bool) (pk : Nat) (t : Pc) (nk : Nat) : b0 s pk t nk ≤ 1 := by
  unfold b0
  cases s with
  | true => rw [if_pos rfl]; split <;> omega
  | false =>
    rw [if_neg (by simp)]
    by_cases k1 : t.1 = 1
    · rw [if_neg (by omega), if_neg (show ¬ t.1 = 3 by omega)]; split <;> omega
    · rw [if_neg (show ¬ (t.1 = 1 ∧ nk ≠ 2) from fun q => k1 q.1)]
      by_cases k2 : t.1 = 2
      · rw [if_neg (show ¬ t.1 = 3 by omega)]; split <;> omega
      · rw [if_neg (show ¬ (t.1 = 2 ∧ pk ≠ 1) from fun q => k2 q.1)]; split <;> omega
theorem brs_le (s : Bool) : ∀ (P : List Pc) (pk : Nat), brs s pk P ≤ P.length
  | [], _ => Nat.le_refl _
  | t :: r, pk => by
    have h1 := b0_le s pk t (hk r)
    have h2 := brs_le s r t.1
    rw [brs_cons, List.length_cons]
    omega
theorem one_s (ch : List Nat → Nat) (hch : ∀ x, ch x ≤ x.length) (B pk nk : Nat) (t : Pc) :
    tsum wt (pre true pk t) + wt (itx ch t) + tsum wt (post true pk t nk) ≤ t.2.length + (tb t).length + b0 true pk t nk + (if t.1 = 3 then 1 else 0) ∧
    tsum (most1 B) (pre true pk t) + most1 B (itx ch t) + tsum (most1 B) (post true pk t nk) ≤ t.2.length + (tb t).length + (b0 true pk t nk + (if t.1 = 3 then 1 else 0)) * (B + 2) := by
  have hx : wt (itx ch t) ≤ t.2.length + (tb t).length := by
    have := hch (t.2 ++ tb t)
    rw [List.length_append] at this
    exact this
  have hm : most1 B (itx ch t) = t.2.length + (tb t).length := by
    show (t.2 ++ tb t).length = _
    rw [List.length_append]
  have hpre : tsum wt (pre true pk t) = b0 true pk t nk ∧ tsum (most1 B) (pre true pk t) = b0 true pk t nk * (B + 2) := by
    unfold pre b0
    by_cases q : t.1 ≠ 2 ∧ (pk = 5 ∨ pk = 2)
    · rw [if_pos ⟨rfl, q⟩, if_pos rfl, if_pos q, ts_one, ts_one]
      refine ⟨rfl, ?_⟩
      show 1 + 1 + B + 0 = 1 * (B + 2)
      omega
    · rw [if_neg (fun z => q z.2), if_neg (fun z => by cases z.1), if_pos rfl, if_neg q]
      simp [ts_nil]
  have hpost : tsum wt (post true pk t nk) ≤ (if t.1 = 3 then 1 else 0) ∧ tsum (most1 B) (post true pk t nk) ≤ (if t.1 = 3 then 1 else 0) * (B + 2) := by
    unfold post
    by_cases k1 : t.1 = 1 ∧ nk ≠ 2
    · rw [if_pos k1, if_pos rfl, ts_one, ts_one]
      exact ⟨Nat.zero_le _, Nat.zero_le _⟩
    rw [if_neg k1]
    by_cases k2 : t.1 = 2 ∧ pk ≠ 1
    · rw [if_pos k2, ts_one, ts_one]
      exact ⟨Nat.zero_le _, Nat.zero_le _⟩
    rw [if_neg k2]
    by_cases k3 : t.1 = 3
    · rw [if_pos k3, ts_one, ts_one, if_pos k3]
      refine ⟨Nat.le_refl _, ?_⟩
      show 1 + 1 + B + 0 ≤ 1 * (B + 2)
      omega
    · rw [if_neg k3, if_neg k3]
      exact ⟨Nat.le_refl _, Nat.zero_le _⟩
  rw [hm, hpre.1, hpre.2, Nat.add_mul]
  have h1 := hpost.1
  have h2 := hpost.2
  generalize (if t.1 = 3 then 1 else 0) * (B + 2) = z at *
  generalize b0 true pk t nk * (B + 2) = y at *
  exact ⟨by omega, by omega⟩
/-- No token is a comma. -/
def NoC (P : List Pc) : Prop := ∀ t ∈ P, t.1 ≠ 3
theorem all_s (ch : List Nat → Nat) (hch : ∀ x, ch x ≤ x.length) (B : Nat) : ∀ (P : List Pc) (pk : Nat), NoC P → tsum wt (itms ch true pk P) ≤ totb P + brs true pk P ∧ tsum (most1 B) (itms ch true pk P) ≤ totb P + brs true pk P * (B + 2)
  | [], pk, h => ⟨Nat.le_refl _, by show 0 ≤ _; omega⟩
  | t :: r, pk, h => by
    obtain ⟨i1, i2⟩ := all_s ch hch B r t.1 (fun x hx => h x (by simp [hx]))
    obtain ⟨o1, o2⟩ := one_s ch hch B pk (hk r) t
    have h3 : (if t.1 = 3 then 1 else 0) = 0 := if_neg (h t (by simp))
    rw [h3] at o1 o2
    rw [itms_cons, tsum_app, tsum_cons, tsum_app, tsum_app, tsum_cons, tsum_app, totb_cons, brs_cons, Nat.add_mul]
    rw [Nat.add_zero] at o1 o2
    generalize b0 true pk t (hk r) * (B + 2) = y at *
    generalize brs true t.1 r * (B + 2) = z at *
    exact ⟨by omega, by omega⟩
theorem one_j (ch : List Nat → Nat) (B pk nk : Nat) (t : Pc) :
    tsum wt2 (pre false pk t) + wt2 (itx ch t) + tsum wt2 (post false pk t nk) ≤ 2 * b0 false pk t nk ∧
    tsum (most1 B) (pre false pk t) + most1 B (itx ch t) + tsum (most1 B) (post false pk t nk) ≤ t.2.length + (tb t).length + b0 false pk t nk * (B + 2) := by
  have hx : wt2 (itx ch t) = 0 := rfl
  have hm : most1 B (itx ch t) = t.2.length + (tb t).length := by
    show (t.2 ++ tb t).length = _
    rw [List.length_append]
  rw [hx, hm]
  unfold pre post b0
  rw [if_neg (fun z => by cases z.1)]
  by_cases k1 : t.1 = 1
  · have k2 : ¬ t.1 = 2 := by omega
    have k3 : ¬ t.1 = 3 := by omega
    by_cases hn : nk = 2
    · simp [k1, hn, ts_nil]
    · simp [k1, hn, ts_nil, tsum_cons, wt2, most1, bgn, bk]; omega
  by_cases k2 : t.1 = 2
  · by_cases hp : pk = 1
    · simp [k2, hp, ts_nil]
    · simp [k2, hp, ts_nil, tsum_cons, wt2, most1, en, bk]; omega
  by_cases k3 : t.1 = 3
  · simp [k3, ts_nil, tsum_cons, wt2, most1, bk]; omega
  · simp [k1, k2, k3, ts_nil]
theorem all_j (ch : List Nat → Nat) (B : Nat) : ∀ (P : List Pc) (pk : Nat), tsum wt2 (itms ch false pk P) ≤ 2 * brs false pk P ∧ tsum (most1 B) (itms ch false pk P) ≤ totb P + brs false pk P * (B + 2)
  | [], pk => ⟨Nat.zero_le _, Nat.zero_le _⟩
  | t :: r, pk => by
    obtain ⟨i1, i2⟩ := all_j ch B r t.1
    obtain ⟨o1, o2⟩ := one_j ch B pk (hk r) t
    rw [itms_cons, tsum_app, tsum_cons, tsum_app, tsum_app, tsum_cons, tsum_app, totb_cons, brs_cons, Nat.add_mul, Nat.mul_add]
    generalize b0 false pk t (hk r) * (B + 2) = y at *
    generalize brs false t.1 r * (B + 2) = z at *
    exact ⟨by omega, by omega⟩
theorem col_j (ch : List Nat → Nat) : ∀ (P : List Pc) (pk : Nat), ∀ x ∈ itms ch false pk P, x.kind = 3 → x.col = false
  | [], pk, x, hx, k => by cases hx
  | t :: r, pk, x, hx, k => by
    rw [itms_cons] at hx
    rcases List.mem_append.1 hx with hx | hx
    · unfold pre at hx
      rw [if_neg (fun z => by cases z.1)] at hx
      split at hx
      · simp at hx; rw [hx]; rfl
      · cases hx
    · rcases List.mem_cons.1 hx with hx | hx
      · rw [hx]; rfl
      · rcases List.mem_append.1 hx with hx | hx
        · unfold post at hx
          rw [if_neg (show ¬ (false = true) by simp)] at hx
          repeat' (split at hx)
          all_goals (simp at hx; try (first | (rcases hx with rfl | rfl <;> rfl) | (rw [hx]; rfl)))
        · exact col_j ch r t.1 x hx k
theorem in_s0 : In 0 s0 := ⟨Int.le_refl _, fun g hg => by simp [s0] at hg; rw [hg]; exact Int.le_refl _⟩
theorem in2_s0 : In2 0 s0 := ⟨fun g hg => by simp [s0] at hg; rw [hg]; exact Int.le_refl _⟩
/-- S-expressions: not too much. -/
theorem room_s (w : Int) (ch : List Nat → Nat) (hch : ∀ x, ch x ≤ x.length) (P : List Pc) (hc : NoC P) {T b : Nat} (hT : totb P ≤ T) (hb : brs true 0 P ≤ b) (h : T + b * (T + b + 2) ≤ 65536) : ∃ q, lay w (itms ch true 0 P) s0 = some q := by
  obtain ⟨a1, a2⟩ := all_s ch hch (T + b) P 0 hc
  have hm : brs true 0 P * (T + b + 2) ≤ b * (T + b + 2) := Nat.mul_le_mul_right _ hb
  exact lay_room w (T + b) _ s0 0 in_s0 (by omega) (by show 0 + _ ≤ most; unfold most; omega)
/-- JSON: not too much. -/
theorem room_j (w : Int) (ch : List Nat → Nat) (P : List Pc) {T b : Nat} (hT : totb P ≤ T) (hb : brs false 0 P ≤ b) (h : T + b * (2 * b + 2) ≤ 65536) : ∃ q, lay w (itms ch false 0 P) s0 = some q := by
  obtain ⟨a1, a2⟩ := all_j ch (2 * b) P 0
  have hm : brs false 0 P * (2 * b + 2) ≤ b * (2 * b + 2) := Nat.mul_le_mul_right _ hb
  exact lay_room2 w (2 * b) _ s0 0 in2_s0 (col_j ch P 0) (by omega) (by show 0 + _ ≤ most; unfold most; omega)
end Go.Proofs.PlatenTree

/- How many tokens a text has, and of what kinds; a short text is never too much. -/
namespace Go.Proofs.PlatenTree
set_option linter.unusedVariables false
open Go.Proofs.PlatenLayout (lay s0)

def cn (M : Mach) (s : St M) : Nat := s.2.2.length + (if M.mid s.1 = true then 1 else 0)
section
variable {M : Mach} (hM : Ok M)
include hM
theorem app0_cn {s s' : St M} {b : Nat} (hm : M.mid s.1 = false) (h : app M (M.f0 s.1 b) s b = some s') : cn M s' ≤ cn M s + 1 := by
  unfold cn
  rw [hm]
  cases hf : M.f0 s.1 b with
  | bad => rw [hf] at h; simp [app] at h
  | blank => rw [hf] at h; simp [app] at h; rw [← h, hm]; simp
  | more c => exact absurd hf (hM.m0 _ _ _)
  | last k c => exact absurd hf (hM.l0 _ _ _ _)
  | start c => rw [hf] at h; simp [app] at h; rw [← h]; simp [hM.s0 _ _ _ hf]
  | whole k c => rw [hf] at h; simp [app] at h; rw [← h]; simp [hM.w0 _ _ _ _ hf]
theorem fd_cn {s s' : St M} {b : Nat} (h : fd M s b = some s') : cn M s' ≤ cn M s + 1 := by
  cases hm : M.mid s.1 with
  | false => rw [fd_out hm] at h; exact app0_cn hM hm h
  | true =>
    cases h1 : M.f1 s.1 b with
    | some r =>
      rw [fd_some hm h1] at h
      unfold cn
      rw [hm]
      cases r with
      | bad => simp [app] at h
      | blank => exact absurd h1 (hM.b1 _ _)
      | start c => exact absurd h1 (hM.s1 _ _ _)
      | whole k c => exact absurd h1 (hM.w1 _ _ _ _)
      | more c => simp [app] at h; rw [← h]; simp [(hM.m1 _ _ _ h1).1]
      | last k c => simp [app] at h; rw [← h]; simp [(hM.l1 _ _ _ _ h1).1]
    | none =>
      cases hz : M.lz s.1 with
      | none => simp [fd, hm, h1, hz] at h
      | some kc =>
        obtain ⟨k, c⟩ := kc
        rw [fd_lazy hm h1 hz] at h
        have hc := (hM.lzm _ _ _ hz).2.1
        have := app0_cn hM (s := (c, [], s.2.2 ++ [(k, s.2.1)])) hc h
        unfold cn at this ⊢
        rw [hc] at this
        rw [hm]
        simp at this ⊢
        omega
theorem run_cn : ∀ (p : List Nat) (s s' : St M), run M p s = some s' → cn M s' ≤ cn M s + p.length
  | [], s, s', h => by injection h with h; rw [← h]; exact Nat.le_refl _
  | b :: r, s, s', h => by
    rw [run_cons] at h
    cases hf : fd M s b with
    | none => rw [hf] at h; cases h
    | some s2 =>
      rw [hf] at h
      have h1 := run_cn r s2 s' h
      have h2 := fd_cn hM hf
      rw [List.length_cons]
      omega
theorem read_cn {c : M.C} (hc : M.mid c = false) {p : List Nat} {P : List Pc} (h : read M c p = some P) : P.length ≤ p.length := by
  unfold read at h
  cases hr : run M p (c, [], []) with
  | none => rw [hr] at h; cases h
  | some sf =>
    rw [hr] at h
    have h1 := run_cn hM p _ sf hr
    have h0 : cn M ((c, [], []) : St M) = 0 := by simp [cn, hc]
    rw [h0] at h1
    have h : fin M sf = some P := h
    unfold cn at h1
    cases hm : M.mid sf.1 with
    | false =>
      rw [fin_out hm] at h
      split at h
      · injection h with h; rw [← h]; omega
      · cases h
    | true =>
      rw [hm] at h1
      cases hz : M.lz sf.1 with
      | none => rw [fin_mid hm hz] at h; cases h
      | some kc =>
        obtain ⟨k, c'⟩ := kc
        rw [fin_lazy hm hz] at h
        split at h
        · injection h with h
          rw [← h, List.length_append]
          simp at h1 ⊢
          omega
        · cases h
end
/-- No comma is a token of an S-expression. -/
theorem sapp_noc {r : Rt (Nat × Nat)} {s s' : St SM} {b : Nat} (hr : match r with | .whole k _ => k ≠ 3 | .last k _ => k ≠ 3 | _ => True) (hs : NoC s.2.2) (h : app SM r s b = some s') : NoC s'.2.2 := by
  have snoc : ∀ x : Pc, x.1 ≠ 3 → NoC (s.2.2 ++ [x]) := fun x hx t ht => by
    rcases List.mem_append.1 ht with ht | ht
    · exact hs t ht
    · simp at ht; rw [ht]; exact hx
  cases r with
  | bad => simp [app] at h
  | blank => simp [app] at h; rw [← h]; exact hs
  | more c => simp [app] at h; rw [← h]; exact hs
  | start c => simp [app] at h; rw [← h]; exact hs
  | whole k c => simp [app] at h; rw [← h]; exact snoc _ hr
  | last k c => simp [app] at h; rw [← h]; exact snoc _ hr
theorem sf0_k (st dep b : Nat) : match sf0 st dep b with | .whole k _ => k ≠ 3 | .last k _ => k ≠ 3 | _ => True := by
  unfold sf0
  by_cases h1 : isB b = true
  · rw [if_pos h1]; trivial
  rw [if_neg h1]
  by_cases h1 : st = 6
  · rw [if_pos h1]; trivial
  rw [if_neg h1]
  by_cases h1 : b = 41 ∧ st = 1
  · rw [if_pos h1]; exact (by decide : (2 : Nat) ≠ 3)
  rw [if_neg h1]
  by_cases h1 : b = 39 ∨ b = 96
  · rw [if_pos h1]; exact (by decide : (6 : Nat) ≠ 3)
  rw [if_neg h1]
  by_cases h1 : b = 44
  · rw [if_pos h1]; trivial
  rw [if_neg h1]
  by_cases h1 : b = 40
  · rw [if_pos h1]
    by_cases h2 : dep = 512
    · rw [if_pos h2]; trivial
    · rw [if_neg h2]; exact (by decide : (1 : Nat) ≠ 3)
  rw [if_neg h1]
  by_cases h1 : b = 34
  · rw [if_pos h1]; trivial
  rw [if_neg h1]
  by_cases h1 : Go.Proofs.PlatenSexp.isP b = true ∧ b ≠ 64
  · rw [if_pos h1]; trivial
  · rw [if_neg h1]; trivial
theorem kd_no (c : Nat × Nat) : SM.kd c ≠ 3 := by
  show (if c.1 = 2 then 6 else 5) ≠ 3
  split <;> decide
theorem sfd_noc {s s' : St SM} {b : Nat} (hs : NoC s.2.2) (h : fd SM s b = some s') : NoC s'.2.2 := by
  cases hm : SM.mid s.1 with
  | false =>
    rw [fd_out hm] at h
    exact sapp_noc (sf0_k _ _ _) hs h
  | true =>
    cases h1 : SM.f1 s.1 b with
    | some r =>
      rw [fd_some hm h1] at h
      refine sapp_noc (r := r) ?_ hs h
      cases r with
      | bad => trivial
      | blank => trivial
      | more c => trivial
      | start c => trivial
      | whole k c => exact absurd h1 (sm_ok.w1 _ _ _ _)
      | last k c => show k ≠ 3; rw [(sm_ok.l1 _ _ _ _ h1).2]; exact kd_no _
    | none =>
      cases hz : SM.lz s.1 with
      | none => simp [fd, hm, h1, hz] at h
      | some kc =>
        obtain ⟨k, c⟩ := kc
        rw [fd_lazy hm h1 hz] at h
        refine sapp_noc (s := (c, [], s.2.2 ++ [(k, s.2.1)])) (sf0_k _ _ _) (fun t ht => ?_) h
        rcases List.mem_append.1 ht with ht | ht
        · exact hs t ht
        · simp at ht; rw [ht]; show k ≠ 3; rw [(sm_ok.lzm _ _ _ hz).2.2]; exact kd_no _
theorem srun_noc : ∀ (p : List Nat) (s s' : St SM), NoC s.2.2 → run SM p s = some s' → NoC s'.2.2
  | [], s, s', hs, h => by injection h with h; rw [← h]; exact hs
  | b :: r, s, s', hs, h => by
    rw [run_cons] at h
    cases hf : fd SM s b with
    | none => rw [hf] at h; cases h
    | some s2 => rw [hf] at h; exact srun_noc r s2 s' (sfd_noc hs hf) h
theorem sread_noc {p : List Nat} {P : List Pc} (h : read SM (0, 0) p = some P) : NoC P := by
  unfold read at h
  cases hr : run SM p ((0, 0), [], []) with
  | none => rw [hr] at h; cases h
  | some sf =>
    rw [hr] at h
    have hw := srun_noc p _ sf (fun t ht => by cases ht) hr
    have h : fin SM sf = some P := h
    cases hm : SM.mid sf.1 with
    | false =>
      rw [fin_out hm] at h
      split at h
      · injection h with h; rw [← h]; exact hw
      · cases h
    | true =>
      cases hz : SM.lz sf.1 with
      | none => rw [fin_mid hm hz] at h; cases h
      | some kc =>
        obtain ⟨k, c⟩ := kc
        rw [fin_lazy hm hz] at h
        split at h
        · injection h with h
          rw [← h]
          intro t ht
          rcases List.mem_append.1 ht with ht | ht
          · exact hw t ht
          · simp at ht; rw [ht]; show k ≠ 3; rw [(sm_ok.lzm _ _ _ hz).2.2]; exact kd_no _
        · cases h
theorem totb_le (P : List Pc) : totb P ≤ tot P + P.length := by
  induction P with
  | nil => exact Nat.le_refl _
  | cons t r ih =>
    have e : tot (t :: r) = t.2.length + tot r := by simp [tot]
    have : (tb t).length ≤ 1 := by unfold tb; split <;> simp
    rw [totb_cons, e, List.length_cons]
    omega
/-- A text of 80 bytes is never too much. -/
theorem short_room {s : Bool} (w : Int) (ch : List Nat → Nat) (hch : ∀ x, ch x ≤ x.length) {p : List Nat} {P : List Pc} (h : rd s p = some P) (hp : p.length ≤ 80) : ∃ q, lay w (itms ch s 0 P) s0 = some q := by
  have hb := brs_le s P 0
  have ht := totb_le P
  cases s with
  | true =>
    have h : read SM (0, 0) p = some P := h
    have h1 := read_cn sm_ok (c := ((0, 0) : Nat × Nat)) rfl h
    have h2 := read_tot h
    exact room_s w ch hch P (sread_noc h) (T := 160) (b := 80) (by omega) (by omega) (by decide)
  | false =>
    have h : read JM j0 p = some P := h
    have h1 := read_cn jm_ok (c := j0) rfl h
    have h2 := read_tot h
    exact room_j w ch P (T := 160) (b := 80) (by omega) (by omega) (by decide)
end Go.Proofs.PlatenTree
