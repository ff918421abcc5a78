/- Both pasts, told by one account; acts, few, of. -/
import Derived.Test.YtibdhahkkejnjaaPuB
import Derived.Test.YtibdhahkkejnjaaPuD
namespace Go.Proofs.PlatenPiece
open Go Go.RowKit
set_option linter.unusedVariables false
set_option maxRecDepth 100000

/-- A past: the text, the edits at hand, what is done, what is undone. -/
structure Hs where
  l : List Nat
  now : List Ed
  done : List (List Ed)
  gone : List (List Ed)
def Hs.close (s : Hs) : Hs := if s.now.length = 0 then s else ⟨s.l, [], s.done ++ [s.now], s.gone⟩
def Hs.sz (s : Hs) : Nat := s.now.length + s.done.flatten.length + s.gone.flatten.length
/-- It has come of a text by edits that may be made. -/
structure Inv (l0 : List Nat) (s : Hs) : Prop where
  lim : l0.length ≤ 65536
  lt : ∀ c ∈ l0, c < 256
  run : Run l0 (s.done.flatten ++ s.now) s.l
  fwd : ∃ lz, Run s.l s.gone.reverse.flatten lz
  gn : s.gone ≠ [] → s.now = []
  ne : ∀ t ∈ s.done ++ s.gone, t ≠ []
theorem Inv.len {l0 : List Nat} {s : Hs} (h : Inv l0 s) : s.l.length ≤ 65536 := h.run.lim h.lim
theorem Inv.bytes {l0 : List Nat} {s : Hs} (h : Inv l0 s) : ∀ c ∈ s.l, c < 256 := h.run.lt h.lt
theorem close_now (s : Hs) : s.close.now = [] := by
  unfold Hs.close
  split
  · exact List.length_eq_zero_iff.1 (by assumption)
  · rfl
theorem close_l (s : Hs) : s.close.l = s.l := by unfold Hs.close; split <;> rfl
theorem close_gone (s : Hs) : s.close.gone = s.gone := by unfold Hs.close; split <;> rfl
theorem close_idem {s : Hs} (h : s.now = []) : s.close = s := by unfold Hs.close; rw [h]; rfl
theorem close_sz (s : Hs) : s.close.sz = s.sz := by
  unfold Hs.close Hs.sz
  split
  · rfl
  · simp; omega
theorem Inv.close {l0 : List Nat} {s : Hs} (h : Inv l0 s) : Inv l0 s.close := by
  unfold Hs.close
  split
  · exact h
  · rename_i h0
    refine ⟨h.lim, h.lt, by simpa using h.run, h.fwd, fun _ => rfl, ?_⟩
    intro t ht
    simp only [List.mem_append, List.mem_singleton] at ht
    rcases ht with (ht | rfl) | ht
    · exact h.ne t (List.mem_append_left _ ht)
    · intro e; rw [e] at h0; exact h0 rfl
    · exact h.ne t (List.mem_append_right _ ht)
theorem flat_ge {L : List (List Ed)} (h : ∀ t ∈ L, t ≠ []) : L.length ≤ L.flatten.length := by
  induction L with
  | nil => simp
  | cons t L ih =>
    have h1 := ih (fun x hx => h x (List.mem_cons_of_mem _ hx))
    have h2 : 0 < t.length := List.length_pos_iff.2 (h t (List.mem_cons_self))
    simp only [List.length_cons, List.flatten_cons, List.length_append]
    omega
theorem Inv.many {l0 : List Nat} {s : Hs} (h : Inv l0 s) : s.done.length + s.gone.length ≤ s.sz := by
  have h1 := flat_ge (L := s.done) (fun t ht => h.ne t (List.mem_append_left _ ht))
  have h2 := flat_ge (L := s.gone) (fun t ht => h.ne t (List.mem_append_right _ ht))
  unfold Hs.sz
  omega
/-- What Do makes of it. -/
def DoR (s : Hs) (e : Ed) (code : Int) (s' : Hs) : Prop :=
  (¬ fitsL s.l e ∧ code = 1 ∧ s' = s) ∨ (fitsL s.l e ∧ 65536 + e.old.size < s.l.length + e.new.size ∧ code = 4 ∧ s' = s) ∨
  (okE s.l e ∧ e.old = e.new ∧ code = 0 ∧ s' = s) ∨ (okE s.l e ∧ e.old ≠ e.new ∧ code = 0 ∧ s' = ⟨appL s.l e, s.now ++ [e], s.done, []⟩)
theorem DoR.det {s : Hs} {e : Ed} {a b : Int} {x y : Hs} (h : DoR s e a x) (k : DoR s e b y) : a = b ∧ x = y := by
  rcases h with ⟨h1, h2, h3⟩ | ⟨h1, h0, h2, h3⟩ | ⟨h1, h0, h2, h3⟩ | ⟨h1, h0, h2, h3⟩ <;> rcases k with ⟨k1, k2, k3⟩ | ⟨k1, k0, k2, k3⟩ | ⟨k1, k0, k2, k3⟩ | ⟨k1, k0, k2, k3⟩
  · exact ⟨h2.trans k2.symm, h3.trans k3.symm⟩
  · exact absurd k1 h1
  · exact absurd k1.1 h1
  · exact absurd k1.1 h1
  · exact absurd h1 k1
  · exact ⟨h2.trans k2.symm, h3.trans k3.symm⟩
  · have := k1.2; omega
  · have := k1.2; omega
  · exact absurd h1.1 k1
  · have := h1.2; omega
  · exact ⟨h2.trans k2.symm, h3.trans k3.symm⟩
  · exact absurd h0 k0
  · exact absurd h1.1 k1
  · have := h1.2; omega
  · exact absurd k0 h0
  · exact ⟨h2.trans k2.symm, h3.trans k3.symm⟩
theorem DoR.inv {l0 : List Nat} {s s' : Hs} {e : Ed} {a : Int} (h : DoR s e a s') (hi : Inv l0 s) : Inv l0 s' ∧ s'.sz ≤ s.sz + 1 ∧ s'.done = s.done := by
  rcases h with ⟨_, _, rfl⟩ | ⟨_, _, _, rfl⟩ | ⟨_, _, _, rfl⟩ | ⟨h1, _, _, rfl⟩
  · exact ⟨hi, Nat.le_succ _, rfl⟩
  · exact ⟨hi, Nat.le_succ _, rfl⟩
  · exact ⟨hi, Nat.le_succ _, rfl⟩
  · refine ⟨⟨hi.lim, hi.lt, ?_, ⟨_, rfl⟩, fun q => absurd rfl q, fun t ht => hi.ne t ?_⟩, ?_, rfl⟩
    · rw [← List.append_assoc]
      exact run_app.2 ⟨_, hi.run, h1, rfl⟩
    · rw [List.append_nil] at ht
      exact List.mem_append_left _ ht
    · unfold Hs.sz; simp; omega
theorem Inv.cancel {l0 : List Nat} {s : Hs} (h : Inv l0 s) : ∃ lz, Run s.l (backsL s.now) lz ∧ Inv l0 ⟨lz, [], s.done, s.gone⟩ ∧ Run l0 s.done.flatten lz := by
  obtain ⟨b, h1, h2⟩ := run_app.1 h.run
  refine ⟨b, h2.back (h1.lim h.lim), ⟨h.lim, h.lt, by simpa using h1, ?_, fun _ => rfl, h.ne⟩, h1⟩
  by_cases hg : s.gone = []
  · rw [hg]; exact ⟨b, rfl⟩
  · have hn := h.gn hg
    rw [hn] at h2
    cases h2
    exact h.fwd
theorem Inv.undo {l0 : List Nat} {l : List Nat} {d0 gone : List (List Ed)} {t : List Ed} (h : Inv l0 ⟨l, [], d0 ++ [t], gone⟩) : ∃ lz, Run l (backsL t) lz ∧ Inv l0 ⟨lz, [], d0, gone ++ [t]⟩ := by
  have hr := h.run
  simp only [List.flatten_append, List.flatten_cons, List.flatten_nil, List.append_nil] at hr
  obtain ⟨b, h1, h2⟩ := run_app.1 hr
  refine ⟨b, h2.back (h1.lim h.lim), ⟨h.lim, h.lt, by simpa using h1, ?_, fun _ => rfl, ?_⟩⟩
  · obtain ⟨lz, hz⟩ := h.fwd
    refine ⟨lz, ?_⟩
    simp only [List.reverse_append, List.reverse_cons, List.reverse_nil, List.nil_append, List.flatten_append, List.flatten_cons, List.flatten_nil, List.append_nil]
    exact run_app.2 ⟨_, h2, hz⟩
  · intro x hx
    refine h.ne x ?_
    simp only [List.mem_append, List.mem_singleton] at hx ⊢
    rcases hx with hx | hx | hx
    · exact Or.inl (Or.inl hx)
    · exact Or.inr hx
    · exact Or.inl (Or.inr hx)
theorem Inv.redo {l0 : List Nat} {l : List Nat} {done g0 : List (List Ed)} {t : List Ed} (h : Inv l0 ⟨l, [], done, g0 ++ [t]⟩) : ∃ lz, Run l t lz ∧ Inv l0 ⟨lz, [], done ++ [t], g0⟩ := by
  obtain ⟨lz, hz⟩ := h.fwd
  simp only [List.reverse_append, List.reverse_cons, List.reverse_nil, List.nil_append, List.flatten_append, List.flatten_cons, List.flatten_nil, List.append_nil] at hz
  obtain ⟨b, h1, h2⟩ := run_app.1 hz
  refine ⟨b, h1, ⟨h.lim, h.lt, ?_, ⟨lz, h2⟩, fun _ => rfl, ?_⟩⟩
  · have hr := h.run
    simp only [List.append_nil, List.flatten_append, List.flatten_cons, List.flatten_nil] at hr ⊢
    exact run_app.2 ⟨_, hr, h1⟩
  · intro x hx
    refine h.ne x ?_
    simp only [List.mem_append, List.mem_singleton] at hx ⊢
    rcases hx with (hx | hx) | hx
    · exact Or.inl hx
    · exact Or.inr (Or.inr hx)
    · exact Or.inr (Or.inl hx)
theorem snoc_of {α β : Type} {f : α → β} {L : List α} {d0 : List β} {t : β} (h : L.map f = d0 ++ [t]) : ∃ L0 x, L = L0 ++ [x] ∧ L0.map f = d0 ∧ f x = t := by
  have hne : L ≠ [] := by
    rintro rfl
    simp at h
  obtain ⟨L0, x, rfl⟩ : ∃ L0 x, L = L0 ++ [x] := ⟨L.dropLast, L.getLast hne, (List.dropLast_concat_getLast hne).symm⟩
  rw [List.map_append, List.map_singleton] at h
  have h2 := List.append_inj' h rfl
  simp only [List.cons.injEq, and_true] at h2
  exact ⟨L0, x, rfl, h2.1, h2.2⟩

/-! ### The program's past -/
def HS (B : Nat) (w : World) (H T : Nat) (s : Hs) (c : Nat) (X : Nat → Prop) : Prop :=
  ∃ O ov dv uv dn ud, HP B w H T s.l c O ov dv uv s.now dn ud ∧ dn.map (·.2) = s.done ∧ ud.map (·.2) = s.gone ∧ X = HOwn H O ov dv uv dn ud
/-- What a call leaves of it. -/
def HStep (B : Nat) (w : World) (H T : Nat) (X : Nat → Prop) (s : Hs) (c : Nat) (w' : World) : Prop := ∃ X', HS B w' H T s c X' ∧ Kept X w w' ∧ (∀ k, k < w.heap.size → X' k → X k)

section
variable {B : Nat} {w w' : World} {H T : Nat} {s : Hs} {c : Nat} {X : Nat → Prop}
theorem HS.own (h : HS B w H T s c X) : ∀ k, X k → B ≤ k ∧ k < w.heap.size := by
  obtain ⟨O, ov, dv, uv, dn, ud, hp, _, _, rfl⟩ := h
  exact hp.own
theorem HS.same (h : HS B w H T s c X) (hs : w.heap.size ≤ w'.heap.size) (hb : ∀ k, X k → w'.heap[k]? = w.heap[k]?) : HS B w' H T s c X := by
  obtain ⟨O, ov, dv, uv, dn, ud, hp, h1, h2, rfl⟩ := h
  exact ⟨O, ov, dv, uv, dn, ud, hp.same hs hb, h1, h2, rfl⟩
theorem HS.keep {R : Nat → Prop} (h : HS B w H T s c X) (hK : Kept R w w') (hd : ∀ k, X k → ¬ R k) : HS B w' H T s c X := h.same hK.size (fun k hk => hK.block k (h.own k hk).2 (hd k hk))
theorem HS.grown (h : HS B w H T s c X) (hg : w.grownBy w' none) : HS B w' H T s c X := h.same hg.size (fun k hk => hg.block k (h.own k hk).2 (by simp))
theorem HS.more {c' : Nat} (h : HS B w H T s c X) (hc : c ≤ c') : HS B w H T s c' X := by
  obtain ⟨O, ov, dv, uv, dn, ud, hp, h1, h2, rfl⟩ := h
  exact ⟨O, ov, dv, uv, dn, ud, ⟨hp.low, hp.bs, hp.head, hp.tx.more hc, hp.orow, hp.drow, hp.urow, hp.trs, hp.apart⟩, h1, h2, rfl⟩
theorem HStep.more {c' : Nat} (h : HStep B w H T X s c w') (hc : c ≤ c') : HStep B w H T X s c' w' := by
  obtain ⟨X', h1, h2, h3⟩ := h
  exact ⟨X', h1.more hc, h2, h3⟩
theorem HS.still (h : HS B w H T s c X) (hg : w.grownBy w' none) : HStep B w H T X s c w' := ⟨X, h.grown hg, kept_none hg, fun _ _ h => h⟩
theorem HStep.below (h : HS B w H T s c X) (hk : HStep B w H T X s c w') : Below B w w' := by
  obtain ⟨X', h1, h2, h3⟩ := hk
  exact ⟨h2.os, h2.tape, h2.output, h2.size, fun k hk => h2.block k (by obtain ⟨O, ov, dv, uv, dn, ud, hp, _⟩ := h; exact Nat.lt_of_lt_of_le hk hp.bs) (fun hx => by have := (h.own k hx).1; omega)⟩

theorem hs_do {l0 : List Nat} (h : HS B w H T s c X) (hi : Inv l0 s) (hc : c + 1 ≤ 4500) (hz : s.now.length ≤ 100000) (e : Ed) :
    Calls Try.prog 37 #[.pointer (some ⟨H, 0, none⟩), .agg #[.int .i64 e.at', .string e.old, .string e.new]] w fun q w' => ∃ code s', DoR s e code s' ∧ q = .returned (.int .i64 code) ∧ HStep B w H T X s' (c + 2) w' := by
  have h' := h
  obtain ⟨O, ov, dv, uv, dn, ud, hp, h1, h2, rfl⟩ := h
  by_cases hf : fitsL s.l e
  · by_cases hl : 65536 + e.old.size < s.l.length + e.new.size
    · refine (do_long hp hi.bytes hc e hf hl).mono ?_
      rintro q w' ⟨rfl, hg⟩
      exact ⟨4, s, Or.inr (Or.inl ⟨hf, hl, rfl, rfl⟩), rfl, (h'.still hg).more (by omega)⟩
    · by_cases hs : e.old = e.new
      · refine (do_same hp hi.bytes hc e hf (by omega) hs).mono ?_
        rintro q w' ⟨rfl, hg⟩
        exact ⟨0, s, Or.inr (Or.inr (Or.inl ⟨⟨hf, by omega⟩, hs, rfl, rfl⟩)), rfl, (h'.still hg).more (by omega)⟩
      · refine (do_yes hp hi.bytes hc hz e hf (by omega) hs).mono ?_
        rintro q w' ⟨rfl, O', ov', hp', hk, hx⟩
        exact ⟨0, _, Or.inr (Or.inr (Or.inr ⟨⟨hf, by omega⟩, hs, rfl, rfl⟩)), rfl, _, ⟨O', ov', dv, _, dn, [], hp', h1, rfl, rfl⟩, hk, hx⟩
  · refine (do_no hp hi.bytes hc e hf).mono ?_
    rintro q w' ⟨rfl, hg⟩
    exact ⟨1, s, Or.inl ⟨hf, rfl, rfl⟩, rfl, (h'.still hg).more (by omega)⟩
/-- Close, with its parts. -/
theorem hs_closeX (h : HS B w H T s c X) (hz : s.sz < 1000) (hd : s.done.length < 1000) :
    Calls Try.prog 42 #[.pointer (some ⟨H, 0, none⟩)] w fun q w' => (∃ v, q = .returned v) ∧ HStep B w H T X s.close c w' := by
  have h' := h
  obtain ⟨O, ov, dv, uv, dn, ud, hp, h1, h2, rfl⟩ := h
  have hdl : dn.length = s.done.length := by rw [← h1, List.length_map]
  rcases Nat.eq_zero_or_pos s.now.length with h0 | h0
  · have hn := List.length_eq_zero_iff.1 h0
    rw [hn] at hp
    refine (close_none hp).mono ?_
    rintro q w' ⟨hv, rfl⟩
    rw [close_idem hn]
    exact ⟨hv, h'.still (grownBy_refl _ _)⟩
  · refine (close_some hp h0 (by unfold Hs.sz at hz; omega) (by omega)).mono ?_
    rintro q w' ⟨hv, dv', hp', hk, hx⟩
    refine ⟨hv, _, ?_, hk, hx⟩
    unfold Hs.close
    rw [if_neg (by omega)]
    exact ⟨O, _, dv', uv, _, ud, hp', by rw [List.map_append, h1]; rfl, h2, rfl⟩
theorem hs_cancel {l0 lz : List Nat} (h : HS B w H T s c X) (hi : Inv l0 s) (hc : c + 2 * s.now.length ≤ 4500) (hr : Run s.l (backsL s.now) lz) :
    Calls Try.prog 39 #[.pointer (some ⟨H, 0, none⟩)] w fun q w' => ∃ vo, q = .returned vo ∧ w'.ownsRow w.heap.size 57 3 vo s.now.length (rowE (backsL s.now)) ∧ HStep B w H T X ⟨lz, [], s.done, s.gone⟩ (c + 2 * s.now.length) w' := by
  obtain ⟨O, ov, dv, uv, dn, ud, hp, h1, h2, rfl⟩ := h
  refine (Cancel_any hp hc).mono ?_
  rintro q w' ⟨vo, O', rfl, hrow, hp', hk, hx⟩
  rw [hr.fold] at hp'
  exact ⟨vo, rfl, hrow, _, ⟨O', _, dv, uv, dn, ud, hp', h1, h2, rfl⟩, hk, hx⟩
theorem hs_undo_none (h : HS B w H T s c X) (hs : s.close.done = []) :
    Calls Try.prog 34 #[.pointer (some ⟨H, 0, none⟩)] w fun q w' => q = .returned (.tuple #[.slice none 0 0, .int .i64 7]) ∧ w' = w := by
  obtain ⟨O, ov, dv, uv, dn, ud, hp, h1, h2, rfl⟩ := h
  have hn : s.now = [] := by
    unfold Hs.close at hs
    split at hs
    · exact List.length_eq_zero_iff.1 (by assumption)
    · simp at hs
  rw [close_idem hn] at hs
  rw [hs] at h1
  obtain rfl := List.map_eq_nil_iff.1 h1
  rw [hn] at hp
  exact Undo_none hp
theorem hs_undo {d0 : List (List Ed)} {t : List Ed} {lz : List Nat} (h : HS B w H T s c X) (hz : s.sz < 1000) (hd0 : s.done.length < 1000) (hs : s.close.done = d0 ++ [t]) (hc : c + 2 * t.length ≤ 4500) (hd : d0.length ≤ 1000) (hg : s.gone.length ≤ 1000) (hr : Run s.l (backsL t) lz) :
    Calls Try.prog 34 #[.pointer (some ⟨H, 0, none⟩)] w fun q w' => ∃ vo, q = .returned (.tuple #[vo, .int .i64 0]) ∧ w'.ownsRow w.heap.size 57 3 vo t.length (rowE (backsL t)) ∧ HStep B w H T X ⟨lz, [], d0, s.gone ++ [t]⟩ (c + 2 * t.length) w' := by
  have h' := h
  obtain ⟨O, ov, dv, uv, dn, ud, hp, h1, h2, hX⟩ := h
  have hdl : dn.length = s.done.length := by rw [← h1, List.length_map]
  have hul : ud.length = s.gone.length := by rw [← h2, List.length_map]
  have key : ∃ dn0 x, (∀ k, HOwn H O ov dv uv dn ud k → X k) ∧ dn0.map (·.2) = d0 ∧ x.2 = t ∧ Calls Try.prog 42 #[.pointer (some ⟨H, 0, none⟩)] w fun q w' => (∃ v, q = .returned v) ∧ ∃ ov' dv', HP B w' H T s.l c O ov' dv' uv [] (dn0 ++ [x]) ud ∧ Kept X w w' ∧ (∀ k, k < w.heap.size → HOwn H O ov' dv' uv (dn0 ++ [x]) ud k → X k) := by
    rcases Nat.eq_zero_or_pos s.now.length with h0 | h0
    · have hn := List.length_eq_zero_iff.1 h0
      rw [close_idem hn, ← h1] at hs
      obtain ⟨dn0, x, rfl, e1, e2⟩ := snoc_of hs
      rw [hn] at hp
      refine ⟨dn0, x, fun k hk => by rw [hX]; exact hk, e1, e2, (close_none hp).mono ?_⟩
      rintro q w' ⟨hv, rfl⟩
      exact ⟨hv, ov, dv, hp, Kept.refl _ _, fun k _ ho => by rw [hX]; exact ho⟩
    · have hs' := hs
      unfold Hs.close at hs'
      rw [if_neg (by omega)] at hs'
      have e := List.append_inj' hs' rfl
      simp only [List.cons.injEq, and_true] at e
      refine ⟨dn, (ov, s.now), fun k hk => by rw [hX]; exact hk, by rw [h1, e.1], e.2, (close_some hp h0 (by unfold Hs.sz at hz; omega) (by omega)).mono ?_⟩
      rintro q w' ⟨hv, dv', hp', hk, hx⟩
      exact ⟨hv, _, dv', hp', by rw [hX]; exact hk, fun k hk ho => by rw [hX]; exact hx k hk ho⟩
  obtain ⟨dn0, x, _, e1, rfl, hcl⟩ := key
  have hdl0 : dn0.length = d0.length := by rw [← e1, List.length_map]
  refine (Undo_of (X := X) hcl hc (by omega) (by omega)).mono ?_
  rintro q w' ⟨vo, O', ov', dv', uv', rfl, hrow, hp', hk, hx⟩
  have hf := hr.fold
  unfold backsL at hf ⊢
  rw [hf] at hp'
  exact ⟨vo, rfl, hrow, _, ⟨O', ov', dv', uv', dn0, ud ++ [x], hp', e1, by rw [List.map_append, h2]; rfl, rfl⟩, hk, hx⟩
theorem hs_redo_none (h : HS B w H T s c X) (hz : s.sz < 1000) (hd0 : s.done.length < 1000) (hs : s.gone = []) :
    Calls Try.prog 35 #[.pointer (some ⟨H, 0, none⟩)] w fun q w' => q = .returned (.tuple #[.slice none 0 0, .int .i64 7]) ∧ HStep B w H T X s.close c w' := by
  refine Redo_none (B := B) (T := T) (l := s.l) (P := fun w' => HStep B w H T X s.close c w') ((hs_closeX h hz hd0).mono ?_)
  rintro q w' ⟨hv, hst⟩
  refine ⟨hv, ?_, hst⟩
  obtain ⟨X', ⟨O, ov, dv, uv, dn, ud, hp, h1, h2, _⟩, _, _⟩ := hst
  rw [close_l, close_now] at hp
  rw [close_gone, hs] at h2
  obtain rfl := List.map_eq_nil_iff.1 h2
  exact ⟨c, O, ov, dv, uv, dn, hp⟩
theorem hs_redo {g0 : List (List Ed)} {t : List Ed} {lz : List Nat} (h : HS B w H T s c X) (hn : s.now = []) (hs : s.gone = g0 ++ [t]) (hc : c + 2 * t.length ≤ 4500) (hd : s.done.length ≤ 1000) (hg : g0.length ≤ 1000) (hr : Run s.l t lz) :
    Calls Try.prog 35 #[.pointer (some ⟨H, 0, none⟩)] w fun q w' => ∃ vo, q = .returned (.tuple #[vo, .int .i64 0]) ∧ w'.ownsRow w.heap.size 57 3 vo t.length (rowE t) ∧ HStep B w H T X ⟨lz, [], s.done ++ [t], g0⟩ (c + 2 * t.length) w' := by
  obtain ⟨O, ov, dv, uv, dn, ud, hp, h1, h2, rfl⟩ := h
  have hdl : dn.length = s.done.length := by rw [← h1, List.length_map]
  rw [hs] at h2
  obtain ⟨u0, x, rfl, e1, rfl⟩ := snoc_of h2
  have hul : u0.length = g0.length := by rw [← e1, List.length_map]
  rw [hn] at hp
  refine (Redo_of hp hc (by omega) (by omega)).mono ?_
  rintro q w' ⟨vo, O', dv', uv', rfl, hrow, hp', hk, hx⟩
  rw [hr.fold] at hp'
  exact ⟨vo, rfl, hrow, _, ⟨O', ov, dv', uv', dn ++ [x], u0, hp', by rw [List.map_append, h1]; rfl, e1, rfl⟩, hk, hx⟩
theorem hs_bytes (h : HS B w H T s c X) (hc : c ≤ 4500) :
    Calls Try.prog 22 #[.pointer (some ⟨T, 0, none⟩)] w fun e w' => e = .returned (.slice (some ⟨w.heap.size, 0, none⟩) s.l.length s.l.length) ∧
      w'.heap[w.heap.size]? = some (.cells (bytesV s.l).toArray 5 (0, 0)) ∧ w.grownBy w' none := by
  obtain ⟨O, ov, dv, uv, dn, ud, hp, h1, h2, rfl⟩ := h
  exact tx_bytes hp.tx hc
theorem hs_depth (h : HS B w H T s c X) : Calls Try.prog 33 #[.pointer (some ⟨H, 0, none⟩)] w fun q w' => q = .returned (.tuple #[.int .i64 (s.done.length : Nat), .int .i64 (s.gone.length : Nat)]) ∧ w.grownBy w' none := by
  obtain ⟨O, ov, dv, uv, dn, ud, hp, h1, h2, rfl⟩ := h
  rw [← h1, ← h2, List.length_map, List.length_map]
  exact Depth_any hp
end

/-! ### The document's past -/
def RS (B : Nat) (w : World) (M : Nat) (s : Hs) (X : Nat → Prop) : Prop :=
  ∃ pv dv gv nv dn gn, RP B w M s.l pv dv gv nv s.now dn gn ∧ dn.map (·.2) = s.done ∧ gn.map (·.2) = s.gone ∧ X = ROwn M pv dv gv nv dn gn
def RStep (B : Nat) (w : World) (M : Nat) (X : Nat → Prop) (s : Hs) (w' : World) : Prop := ∃ X', RS B w' M s X' ∧ Kept X w w' ∧ (∀ k, k < w.heap.size → X' k → X k)
section
variable {B : Nat} {w w' : World} {M : Nat} {s : Hs} {X : Nat → Prop}
theorem RS.own (h : RS B w M s X) : ∀ k, X k → B ≤ k ∧ k < w.heap.size := by
  obtain ⟨pv, dv, gv, nv, dn, gn, hp, _, _, rfl⟩ := h
  exact hp.own
theorem RS.same (h : RS B w M s X) (hs : w.heap.size ≤ w'.heap.size) (hb : ∀ k, X k → w'.heap[k]? = w.heap[k]?) : RS B w' M s X := by
  obtain ⟨pv, dv, gv, nv, dn, gn, hp, h1, h2, rfl⟩ := h
  exact ⟨pv, dv, gv, nv, dn, gn, hp.same hs hb, h1, h2, rfl⟩
theorem RS.keep {R : Nat → Prop} (h : RS B w M s X) (hK : Kept R w w') (hd : ∀ k, R k → ¬ X k) : RS B w' M s X := h.same hK.size (fun k hk => hK.block k (h.own k hk).2 (fun hr => hd k hr hk))
theorem RS.grown (h : RS B w M s X) (hg : w.grownBy w' none) : RS B w' M s X := h.same hg.size (fun k hk => hg.block k (h.own k hk).2 (by simp))
theorem RS.rx (h : RS B w M s X) : ∃ pv dv gv nv dn gn, RX B w X M w s.l pv dv gv nv s.now dn gn ∧ dn.map (·.2) = s.done ∧ gn.map (·.2) = s.gone := by
  obtain ⟨pv, dv, gv, nv, dn, gn, hp, h1, h2, rfl⟩ := h
  exact ⟨pv, dv, gv, nv, dn, gn, ⟨Kept.refl _ _, hp, fun _ _ h => h⟩, h1, h2⟩
theorem RX.step {l : List Nat} {pv dv gv nv : Value} {now : List Ed} {dn gn : List (Value × List Ed)} {d g : List (List Ed)} (h : RX B w X M w' l pv dv gv nv now dn gn) (h1 : dn.map (·.2) = d) (h2 : gn.map (·.2) = g) : RStep B w M X ⟨l, now, d, g⟩ w' :=
  ⟨_, ⟨pv, dv, gv, nv, dn, gn, h.rp, h1, h2, rfl⟩, h.kept, h.sub⟩
theorem rs_do {l0 : List Nat} (h : RS B w M s X) (hi : Inv l0 s) (hz : s.now.length ≤ 100000) (e : Ed) :
    Calls Try.prog 38 #[.pointer (some ⟨M, 0, none⟩), .agg #[.int .i64 e.at', .string e.old, .string e.new]] w fun q w' => ∃ code s', DoR s e code s' ∧ q = .returned (.int .i64 code) ∧ RStep B w M X s' w' := by
  obtain ⟨pv, dv, gv, nv, dn, gn, hx, h1, h2⟩ := h.rx
  refine (rdo hx hi.bytes hi.len hz e).mono ?_
  rintro q w' (⟨a1, rfl, a2⟩ | ⟨a1, a0, rfl, a2⟩ | ⟨a1, a0, rfl, a2⟩ | ⟨a1, a0, rfl, pv', nv', a2⟩)
  · exact ⟨1, s, Or.inl ⟨a1, rfl, rfl⟩, rfl, a2.step h1 h2⟩
  · exact ⟨4, s, Or.inr (Or.inl ⟨a1, a0, rfl, rfl⟩), rfl, a2.step h1 h2⟩
  · exact ⟨0, s, Or.inr (Or.inr (Or.inl ⟨a1, a0, rfl, rfl⟩)), rfl, a2.step h1 h2⟩
  · exact ⟨0, _, Or.inr (Or.inr (Or.inr ⟨a1, a0, rfl, rfl⟩)), rfl, a2.step h1 rfl⟩
theorem rs_close (h : RS B w M s X) (hz : s.sz < 1000) (hd : s.done.length < 1000) :
    Calls Try.prog 52 #[.pointer (some ⟨M, 0, none⟩)] w fun q w' => (∃ v, q = .returned v) ∧ RStep B w M X s.close w' := by
  obtain ⟨pv, dv, gv, nv, dn, gn, hx, h1, h2⟩ := h.rx
  have hdl : dn.length = s.done.length := by rw [← h1, List.length_map]
  rcases Nat.eq_zero_or_pos s.now.length with h0 | h0
  · have hn := List.length_eq_zero_iff.1 h0
    have hx' := hx
    rw [hn] at hx
    refine (rclose_none hx (by omega)).mono ?_
    rintro q w' ⟨hv, rfl⟩
    rw [close_idem hn]
    exact ⟨hv, hx'.step h1 h2⟩
  · refine (rclose_some hx h0 (by unfold Hs.sz at hz; omega) (by omega)).mono ?_
    rintro q w' ⟨hv, dv', hx'⟩
    refine ⟨hv, ?_⟩
    unfold Hs.close
    rw [if_neg (by omega)]
    exact hx'.step (by rw [List.map_append, h1]; rfl) h2
theorem rs_cancel {l0 lz : List Nat} (h : RS B w M s X) (hi : Inv l0 s) (hz : s.now.length ≤ 100000) (hr : Run s.l (backsL s.now) lz) :
    Calls Try.prog 41 #[.pointer (some ⟨M, 0, none⟩)] w fun q w' => ∃ vo, q = .returned vo ∧ w'.ownsRow w.heap.size 57 3 vo s.now.length (rowE (backsL s.now)) ∧ RStep B w M X ⟨lz, [], s.done, s.gone⟩ w' := by
  obtain ⟨pv, dv, gv, nv, dn, gn, hx, h1, h2⟩ := h.rx
  refine (rcancel hx hi.len hz lz hr).mono ?_
  rintro q w' ⟨vo, pv', rfl, hrow, hx'⟩
  exact ⟨vo, rfl, hrow, hx'.step h1 h2⟩
theorem rs_undo_none (h : RS B w M s X) (hs : s.close.done = []) :
    Calls Try.prog 53 #[.pointer (some ⟨M, 0, none⟩)] w fun q w' => q = .returned (.tuple #[.slice none 0 0, .int .i64 7]) ∧ w' = w := by
  obtain ⟨pv, dv, gv, nv, dn, gn, hx, h1, h2⟩ := h.rx
  have hn : s.now = [] := by
    unfold Hs.close at hs
    split at hs
    · exact List.length_eq_zero_iff.1 (by assumption)
    · simp at hs
  rw [close_idem hn] at hs
  rw [hs] at h1
  obtain rfl := List.map_eq_nil_iff.1 h1
  rw [hn] at hx
  exact rundo_none hx
theorem rs_undo {l0 : List Nat} {d0 : List (List Ed)} {t : List Ed} {lz : List Nat} (h : RS B w M s X) (hi : Inv l0 s) (hz : s.sz < 1000) (hd0 : s.done.length < 1000) (hs : s.close.done = d0 ++ [t]) (ht : t.length ≤ 1000) (hd : d0.length ≤ 1000) (hg : s.gone.length ≤ 1000) (hr : Run s.l (backsL t) lz) :
    Calls Try.prog 53 #[.pointer (some ⟨M, 0, none⟩)] w fun q w' => ∃ vo, q = .returned (.tuple #[vo, .int .i64 0]) ∧ w'.ownsRow w.heap.size 57 3 vo t.length (rowE (backsL t)) ∧ RStep B w M X ⟨lz, [], d0, s.gone ++ [t]⟩ w' := by
  obtain ⟨pv, dv, gv, nv, dn, gn, hx, h1, h2⟩ := h.rx
  have hgl : gn.length = s.gone.length := by rw [← h2, List.length_map]
  have hcl := rs_close h hz hd0
  have key : ∃ dn0 x, dn0.map (·.2) = d0 ∧ x.2 = t ∧ Calls Try.prog 52 #[.pointer (some ⟨M, 0, none⟩)] w fun q w' => (∃ v, q = .returned v) ∧ ∃ dv' nv', RX B w X M w' s.l pv dv' gv nv' [] (dn0 ++ [x]) gn ∧ w.heap.size ≤ w'.heap.size := by
    have hdl : dn.length = s.done.length := by rw [← h1, List.length_map]
    rcases Nat.eq_zero_or_pos s.now.length with h0 | h0
    · have hn := List.length_eq_zero_iff.1 h0
      rw [close_idem hn, ← h1] at hs
      obtain ⟨dn0, x, rfl, e1, e2⟩ := snoc_of hs
      rw [hn] at hx
      refine ⟨dn0, x, e1, e2, (rclose_none hx (by omega)).mono ?_⟩
      rintro q w' ⟨hv, rfl⟩
      exact ⟨hv, dv, nv, hx, Nat.le_refl _⟩
    · have hs' := hs
      unfold Hs.close at hs'
      rw [if_neg (by omega)] at hs'
      have e := List.append_inj' hs' rfl
      simp only [List.cons.injEq, and_true] at e
      refine ⟨dn, (nv, s.now), by rw [h1, e.1], e.2, (rclose_some hx h0 (by unfold Hs.sz at hz; omega) (by omega)).mono ?_⟩
      rintro q w' ⟨hv, dv', hx'⟩
      exact ⟨hv, dv', _, hx', hx'.kept.size⟩
  obtain ⟨dn0, x, e1, rfl, hcl⟩ := key
  have hdl0 : dn0.length = d0.length := by rw [← e1, List.length_map]
  refine (rundo_of hcl hi.len (by omega) (by omega) (by omega) lz hr).mono ?_
  rintro q w' ⟨vo, pv', dv', gv', nv', rfl, hrow, hx'⟩
  exact ⟨vo, rfl, hrow, hx'.step e1 (by rw [List.map_append, h2]; rfl)⟩
theorem rs_redo_none (h : RS B w M s X) (hz : s.sz < 1000) (hd0 : s.done.length < 1000) (hs : s.gone = []) :
    Calls Try.prog 54 #[.pointer (some ⟨M, 0, none⟩)] w fun q w' => q = .returned (.tuple #[.slice none 0 0, .int .i64 7]) ∧ RStep B w M X s.close w' := by
  obtain ⟨pv, dv, gv, nv, dn, gn, hx, h1, h2⟩ := h.rx
  have hdl : dn.length = s.done.length := by rw [← h1, List.length_map]
  rw [hs] at h2
  obtain rfl := List.map_eq_nil_iff.1 h2
  refine rredo_none (B := B) (w0 := w) (X := X) (l := s.l) (pv := pv) (gv := gv) (P := fun w' => RStep B w M X s.close w') ?_
  rcases Nat.eq_zero_or_pos s.now.length with h0 | h0
  · have hn := List.length_eq_zero_iff.1 h0
    have hx' := hx
    rw [hn] at hx
    refine (rclose_none hx (by omega)).mono ?_
    rintro q w' ⟨hv, rfl⟩
    rw [close_idem hn]
    exact ⟨hv, ⟨dv, nv, dn, hx⟩, hx'.step h1 hs.symm⟩
  · refine (rclose_some hx h0 (by unfold Hs.sz at hz; omega) (by omega)).mono ?_
    rintro q w' ⟨hv, dv', hx'⟩
    refine ⟨hv, ⟨dv', _, _, hx'⟩, ?_⟩
    unfold Hs.close
    rw [if_neg (by omega)]
    exact hx'.step (by rw [List.map_append, h1]; rfl) hs.symm
theorem rs_redo {l0 : List Nat} {g0 : List (List Ed)} {t : List Ed} {lz : List Nat} (h : RS B w M s X) (hi : Inv l0 s) (hn : s.now = []) (hs : s.gone = g0 ++ [t]) (ht : t.length ≤ 1000) (hd : s.done.length ≤ 1000) (hg : g0.length ≤ 1000) (hr : Run s.l t lz) :
    Calls Try.prog 54 #[.pointer (some ⟨M, 0, none⟩)] w fun q w' => ∃ vo, q = .returned (.tuple #[vo, .int .i64 0]) ∧ w'.ownsRow B 57 3 vo t.length (rowE t) ∧ RStep B w M X ⟨lz, [], s.done ++ [t], g0⟩ w' := by
  obtain ⟨pv, dv, gv, nv, dn, gn, hx, h1, h2⟩ := h.rx
  have hdl : dn.length = s.done.length := by rw [← h1, List.length_map]
  rw [hs] at h2
  obtain ⟨u0, x, rfl, e1, rfl⟩ := snoc_of h2
  have hul : u0.length = g0.length := by rw [← e1, List.length_map]
  rw [hn] at hx
  refine (rredo_of hx hi.len (by omega) (by omega) (by omega) lz hr).mono ?_
  rintro q w' ⟨vo, pv', dv', gv', rfl, hrow, hx'⟩
  exact ⟨vo, rfl, hrow, hx'.step (by rw [List.map_append, h1]; rfl) e1⟩
end
end Go.Proofs.PlatenPiece

namespace Go.Proofs.PlatenPiece
open Go Go.RowKit
set_option linter.unusedVariables false
set_option maxRecDepth 100000

/-- An act. -/
structure AC where
  d : Nat
  at' : Int
  n : Int
  old : ByteArray
  new : ByteArray
def AC.ok (a : AC) : Prop := a.d < 256 ∧ (-9223372036854775808 ≤ a.at' ∧ a.at' ≤ 9223372036854775807) ∧ (-9223372036854775808 ≤ a.n ∧ a.n ≤ 9223372036854775807) ∧ a.old.size ≤ 9223372036854775807 ∧ a.new.size ≤ 9223372036854775807
/-- An act in memory. -/
def AcAt (w : World) (p : Addr) (a : AC) : Prop := w.cell? p = some (.int .u8 (a.d : Nat)) ∧ w.cell? ⟨p.block, p.off + 1, none⟩ = some (.int .i64 a.at') ∧ w.cell? ⟨p.block, p.off + 2, none⟩ = some (.int .i64 a.n) ∧ w.cell? ⟨p.block, p.off + 3, none⟩ = some (.string a.old) ∧ w.cell? ⟨p.block, p.off + 4, none⟩ = some (.string a.new)
/-- A slice of acts. -/
def IsActs (w : World) (v : Value) (xs : List AC) : Prop := xs.length ≤ 9223372036854775807 ∧ ∃ va cap, v = .slice va xs.length cap ∧ ∀ i a, xs[i]? = some a → a.ok ∧ ∃ ad, va = some ad ∧ AcAt w (ad.add (i * 5)) a
theorem AcAt.below {B : Nat} {w w' : World} {p : Addr} {a : AC} (h : AcAt w p a) (hb : Below w.heap.size w w') : AcAt w' p a := by
  obtain ⟨h0, h1, h2, h3, h4⟩ := h
  have hlt := World.block_lt_of_cell? _ _ h0
  exact ⟨by rw [hb.cell (p := p) hlt]; exact h0, by rw [hb.cell (p := ⟨p.block, p.off + 1, none⟩) hlt]; exact h1, by rw [hb.cell (p := ⟨p.block, p.off + 2, none⟩) hlt]; exact h2, by rw [hb.cell (p := ⟨p.block, p.off + 3, none⟩) hlt]; exact h3, by rw [hb.cell (p := ⟨p.block, p.off + 4, none⟩) hlt]; exact h4⟩
theorem IsActs.below {w w' : World} {v : Value} {xs : List AC} (h : IsActs w v xs) (hb : Below w.heap.size w w') : IsActs w' v xs := by
  obtain ⟨h0, va, cap, rfl, h1⟩ := h
  refine ⟨h0, va, cap, rfl, fun i a hi => ?_⟩
  obtain ⟨q, ad, rfl, h2⟩ := h1 i a hi
  exact ⟨q, ad, rfl, h2.below (B := 0) hb⟩

/-- What few says. -/
def Few (n : Nat) (xs : List AC) (q : Ending) : Prop := ∃ r, q = .returned (.bool r) ∧ (r = true → n ≤ 60 ∧ xs.length ≤ 24 ∧ ∀ a ∈ xs, a.old.size ≤ 60 ∧ a.new.size ≤ 60)
theorem few_no {n : Nat} {xs : List AC} {q : Ending} (h : q = .returned (.bool false)) : Few n xs q := ⟨false, h, fun e => by cases e⟩

set_option maxHeartbeats 2000000 in
theorem few_any (pa : Option Addr) (n pc : Nat) (v : Value) (xs : List AC) (w : World) (hv : IsActs w v xs) :
    Calls Try.prog 25 #[.slice pa n pc, v] w fun q w' => Few n xs q ∧ w' = w := by
  obtain ⟨hx0, va, cap, rfl, hx⟩ := hv
  obtain ⟨m, hm⟩ : ∃ m, xs.length = m := ⟨_, rfl⟩
  have Hm := hidden hm
  have Hx := hidden hx
  rw [hm] at hx0 ⊢
  clear hx hm
  by_cases h1 : (60 : Int) < (n : Int)
  · go_enter Try.func25, Try.ntmps25
    go_wp2
    go_ret
    exact ⟨few_no rfl, rfl⟩
  · by_cases h2 : (24 : Int) < (m : Int)
    · go_enter Try.func25, Try.ntmps25
      go_wp2
      go_ret
      exact ⟨few_no rfl, rfl⟩
    · have Hn : Hid (n ≤ 60) := by unfold Hid; omega
      go_enter Try.func25, Try.ntmps25
      go_wp2
      go_loopw [5] (fun i wr => ∃ k : Nat, k ≤ m ∧ i = .int .i64 k ∧ wr = w ∧ ∀ a ∈ xs.take k, a.old.size ≤ 60 ∧ a.new.size ≤ 60) (fun i _ => m - (intOf i).toNat)
      case atStart => exact ⟨0, Nat.zero_le _, rfl, rfl, by simp⟩
      case round =>
        obtain ⟨k, hk, rfl, rfl, hall⟩ := hrel
        by_cases hlt : k < m
        · have hkz : (k : Int) < (m : Int) := by omega
          obtain ⟨a, ha⟩ : ∃ a, xs[k]? = some a := ⟨_, List.getElem?_eq_getElem (by have := Hm.out; omega)⟩
          obtain ⟨_, ad, rfl, hA⟩ := Hx.out k a ha
          have Hstep : Hid (a.old.size ≤ 60 ∧ a.new.size ≤ 60 → ∀ b ∈ xs.take (k + 1), b.old.size ≤ 60 ∧ b.new.size ≤ 60) := fun h b hb => by
            rw [List.take_add_one, ha, Option.toList_some] at hb
            rcases List.mem_append.1 hb with hb | hb
            · exact hall b hb
            · simp only [List.mem_singleton] at hb; subst hb; exact h
          obtain ⟨⟨pb, po, ps⟩, hP⟩ : ∃ P, ad.add (k * 5) = P := ⟨_, rfl⟩
          rw [hP] at hA
          obtain ⟨a0, a1, a2, a3, a4⟩ := hA
          obtain ⟨os, hos⟩ : ∃ os, a.old.size = os := ⟨_, rfl⟩
          obtain ⟨ns, hns⟩ : ∃ ns, a.new.size = ns := ⟨_, rfl⟩
          have Hos := hidden hos
          have Hns := hidden hns
          clear ha hall
          by_cases h3 : (60 : Int) < (os : Int)
          · go_wp2
            go_ret
            exact ⟨few_no rfl, rfl⟩
          · by_cases h4 : (60 : Int) < (ns : Int)
            · go_wp2
              go_ret
              exact ⟨few_no rfl, rfl⟩
            · have Hok : Hid (a.old.size ≤ 60 ∧ a.new.size ≤ 60) := ⟨by rw [Hos.out]; omega, by rw [Hns.out]; omega⟩
              go_wp2
              go_roundw
              case rel => exact ⟨k + 1, by omega, by go_num, by first | exact rfl | exact trivial, Hstep.out Hok.out⟩
              case measure => simp [intOf]; omega
        · have hkz : ¬ ((k : Int) < (m : Int)) := by omega
          have hkm : k = m := by omega
          have Hall : Hid (∀ a ∈ xs, a.old.size ≤ 60 ∧ a.new.size ≤ 60) := fun a ha => hall a (by rw [hkm, List.take_of_length_le (by rw [Hm.out]; exact Nat.le_refl _)]; exact ha)
          have Hm24 : Hid (m ≤ 24) := by unfold Hid; omega
          clear hall hkm
          go_wp2
          go_ret
          exact ⟨⟨true, rfl, fun _ => ⟨Hn.out, by rw [Hm.out]; exact Hm24.out, Hall.out⟩⟩, rfl⟩

/-- An act's value. -/
def AC.val (a : AC) : Value := .agg #[.int .u8 (a.d : Nat), .int .i64 a.at', .int .i64 a.n, .string a.old, .string a.new]
/-- What 'of' answers: an edit. -/
def OfPost (w : World) (q : Ending) (w' : World) : Prop := ∃ e : Ed, q = .returned (.agg #[.int .i64 e.at', .string e.old, .string e.new]) ∧ Below w.heap.size w w'
theorem conv_some (g r n cap B : Nat) (l : List Nat) (m c : Nat) (w : World) (hl : ∀ c ∈ l, c < 256) (hv : w.ownsRow B 5 1 (.slice (some ⟨g, 0, none⟩) n cap) n (bytesV l)) (hr : r + m ≤ n) : ∃ s : ByteArray, s.size = m ∧ ∀ w', Below w.heap.size w w' → (convert 22 9 (.slice (some ⟨g, r, none⟩) m c)).run Try.prog w' = .ok (.string s) w' := by
  have hln : l.length = n := by have := hv.1; rw [bytesV_len] at this; omega
  have hlm : (((l.drop r).take m).map UInt8.ofNat).length = m := by rw [List.length_map, List.length_take, List.length_drop]; omega
  refine ⟨⟨(((l.drop r).take m).map UInt8.ofNat).toArray⟩, by show (((l.drop r).take m).map UInt8.ofNat).toArray.size = m; rw [List.size_toArray, hlm], fun w' hb => ?_⟩
  have := run_convert_bytes_back (P := Try.prog) w' 22 9 5 ⟨g, r, none⟩ c (((l.drop r).take m).map UInt8.ofNat) Try.underlying22 Try.underlying5 Try.underlying9 (fun j hj => by
    have hj' : j < m := by rw [hlm] at hj; exact hj
    have hjl : r + j < l.length := by omega
    rw [Addr.add_lit]
    have h2 := hv.cells (g := g) rfl (r + j) (.int .u8 (l[r + j] : Nat)) (by simp [bytesV, List.getElem?_eq_getElem hjl])
    rw [Addr.add_lit, Nat.zero_add] at h2
    rw [hb.cell (p := ⟨g, r + j, none⟩) (World.block_lt_of_cell? _ _ h2), h2]
    have hc := hl _ (List.getElem_mem hjl)
    simp
    omega)
  rw [hlm] at this
  exact this
theorem conv_none (va : Option Addr) (c : Nat) : ∃ s : ByteArray, s.size = 0 ∧ ∀ w : World, (convert 22 9 (.slice va 0 c)).run Try.prog w = .ok (.string s) w := by
  cases va with
  | none => exact ⟨⟨#[]⟩, rfl, fun w => by rw [run_convert_bytes_string w 22 9 5 none 0 c Try.underlying22 Try.underlying5 Try.underlying9]; simp [Conv.bytesToString]; rfl⟩
  | some a => exact ⟨⟨#[]⟩, rfl, fun w => run_convert_bytes_back (P := Try.prog) w 22 9 5 a c [] Try.underlying22 Try.underlying5 Try.underlying9 (fun j hj => by simp at hj)⟩

theorem tmod_nat (f L : Nat) : ∃ r : Nat, (f : Int).tmod ((L : Int) + 1) = (r : Int) ∧ r ≤ L := by
  refine ⟨f % (L + 1), ?_, Nat.le_of_lt_succ (Nat.mod_lt _ (Nat.succ_pos _))⟩
  rw [Int.tmod_eq_emod_of_nonneg (by omega)]
  push_cast
  rfl
theorem u8_nat (z : Int) : ∃ f : Nat, IntKind.u8.wrap z = (f : Int) ∧ f < 256 := by
  rw [IntKind.wrap_u8]
  exact ⟨(z % 256).toNat, by omega, by omega⟩

set_option maxHeartbeats 4000000 in
theorem of_any {B : Nat} (l : List Nat) (v : Value) (a : AC) (w : World) (hv : w.ownsRow B 5 1 v l.length (bytesV l)) (hl : l.length ≤ 65536) (hlt : ∀ c ∈ l, c < 256) (ha : a.ok) (ho : a.old.size ≤ 60) (hn : a.new.size ≤ 60) :
    Calls Try.prog 36 #[v, .agg #[.int .u8 (a.d : Nat), .int .i64 a.at', .int .i64 a.n, .string a.old, .string a.new]] w fun q w' => OfPost w q w' := by
  obtain ⟨L, hL⟩ : ∃ L, l.length = L := ⟨_, rfl⟩
  have HV := hidden hv
  obtain ⟨va, vc, rfl⟩ := row_slice hv
  rw [hL] at HV hl ⊢
  have Hlt := hidden hlt
  obtain ⟨d8, hd8, hd9⟩ : ∃ d8 : Nat, (a.d : Int).tmod 8 = (d8 : Int) ∧ d8 < 8 := by
    obtain ⟨r, h1, h2⟩ := tmod_nat a.d 7
    exact ⟨r, by simpa using h1, by omega⟩
  obtain ⟨f, hf, hf2⟩ := u8_nat a.at'
  obtain ⟨g, hg, hg2⟩ := u8_nat a.n
  obtain ⟨r, hr, hr2⟩ := tmod_nat f L
  obtain ⟨m, hm, hm2⟩ := tmod_nat g (L - r)
  obtain ⟨d, a1, a2, old, new⟩ := a
  dsimp only at *
  clear hv hlt ha
  by_cases h3 : d8 = 3
  · go_enter Try.func36, Try.ntmps36
    go_wp2_with fail
    refine bodyPost_ret (results_cell_row rfl _ _ (w.heap.size + 1) 57 #[.int .i64 a1, .string old, .string new] (0, 0) _ rfl (by rw [show w.heap.size + 1 = (w.alloc (.cells #[.int .u8 (d : Nat), .int .i64 a1, .int .i64 a2, .string old, .string new] 54)).heap.size by simp]; exact heap_alloc_new _ _) Try.underlying57 rfl size57e) rfl ⟨⟨a1, old, new, by omega, by omega⟩, rfl, ((Below.refl _ _).alloc (Nat.le_refl _) _).alloc (by simp) _⟩
  · have h3' : ¬ ((d8 : Int) = 3) := by omega
    have hcap : L ≤ vc := by
      rcases HV.out.2 with ⟨e, h0⟩ | ⟨g', cap', cur, e, _, _, h2, _⟩
      · simp only [Value.slice.injEq] at e; omega
      · simp only [Value.slice.injEq] at e
        obtain ⟨_, _, rfl⟩ := e
        exact h2
    have q1 : IntKind.i64.wrap ((L : Int) - (r : Int)) = ((L - r : Nat) : Int) := by rw [show (L : Int) - (r : Int) = ((L - r : Nat) : Int) by omega]; exact IntWalk.i64_in _ (by omega)
    have q2 : IntKind.i64.wrap ((r : Int) + (m : Int)) = ((r + m : Nat) : Int) := by push_cast; exact IntWalk.i64_in _ (by omega)
    have q3 : (L : Int) - (r : Int) = ((L - r : Nat) : Int) := by omega
    have hb1 : Below w.heap.size w ((w.alloc (.cells #[.int .u8 (d : Nat), .int .i64 a1, .int .i64 a2, .string old, .string new] 54)).alloc (.cells #[.int .i64 0, .string ⟨#[]⟩, .string ⟨#[]⟩] 57)) := ((Below.refl _ _).alloc (Nat.le_refl _) _).alloc (by simp) _
    have Hb1 := hidden hb1
    clear hb1
    have Hb2 : Hid (∀ o, Below w.heap.size w ((w.alloc (.cells #[.int .u8 (d : Nat), .int .i64 a1, .int .i64 a2, .string old, .string new] 54)).alloc o).drew) := fun o => (((Below.refl _ _).alloc (Nat.le_refl _) _).alloc (by simp) _).drew
    have C4 : Hid (∀ o, ((w.alloc (.cells #[.int .u8 (d : Nat), .int .i64 a1, .int .i64 a2, .string old, .string new] 54)).alloc o).drew.cell? ⟨w.heap.size, 4, none⟩ = some (.string new)) := fun o => by
      have q := heap_alloc_new w (.cells #[.int .u8 (d : Nat), .int .i64 a1, .int .i64 a2, .string old, .string new] 54)
      have q' : ((w.alloc (.cells #[.int .u8 (d : Nat), .int .i64 a1, .int .i64 a2, .string old, .string new] 54)).alloc o).drew.heap[w.heap.size]? = some (.cells #[.int .u8 (d : Nat), .int .i64 a1, .int .i64 a2, .string old, .string new] 54 (0, 0)) := (Below.heap_alloc _ _ _ (by simp)).trans q
      simp only [World.cell?, q']
      rfl
    have HF : Hid (∀ x y z, ((w.alloc (.cells #[.int .u8 (d : Nat), .int .i64 a1, .int .i64 a2, .string old, .string new] 54)).alloc (.cells #[x, y, z] 57)).drew.heap[w.heap.size + 1]? = some (.cells #[x, y, z] 57 (0, 0))) := fun x y z => by
      have q := heap_alloc_new (w.alloc (.cells #[.int .u8 (d : Nat), .int .i64 a1, .int .i64 a2, .string old, .string new] 54)) (.cells #[x, y, z] 57)
      rw [World.size_alloc] at q
      exact q
    rcases HV.out.2 with ⟨e, h0⟩ | ⟨g', cap', cur, e, _⟩
    · simp only [Value.slice.injEq] at e
      obtain ⟨rfl, rfl, rfl⟩ := e
      obtain rfl : r = 0 := by omega
      obtain rfl : m = 0 := by omega
      obtain ⟨str, hs1, hs2⟩ := conv_none none 0
      have qz : IntKind.i64.wrap 0 = 0 := IntWalk.i64_in _ (by omega)
      have Hs : Hid (∀ u : World, Below w.heap.size w u → (convert 22 9 (.slice none 0 0)).run Try.prog u = .ok (.string str) u) := fun u _ => hs2 u
      go_enter Try.func36, Try.ntmps36
      go_wp2_with fail
      refine wp_region_held_drew (S := (fun u : World => u.cell? ⟨w.heap.size, 4, none⟩ = some (.string new) ∧ (convert 22 9 (.slice none 0 0)).run Try.prog u = .ok (.string str) u)) (by kernel_rfl) ⟨C4.out _, Hs.out _ (Hb2.out _)⟩ (fun hHeld => ?_)
      refine take_dst 0 (some 36) rfl rfl (by kernel_rfl) (by kernel_rfl) (by kernel_rfl) (fun _ _ _ h => h) (v := ?_) (Or.inl ⟨by rfl, ?_⟩) (by assumption) ?_
      rotate_left
      · (intro w hSw; (try dsimp only at hSw); go_simp; try with_reducible rfl)
      simp only [Act.put, List.setIfInBounds_toArray, List.set_cons_zero, List.set_cons_succ]
      refine take_dst 1 (some 37) rfl rfl (by kernel_rfl) (by kernel_rfl) (by kernel_rfl) (fun _ _ _ h => h) (v := ?_) (Or.inl ⟨by rfl, ?_⟩) (by assumption) ?_
      rotate_left
      · (intro w hSw; (try dsimp only at hSw); go_simp; try with_reducible rfl)
      simp only [Act.put, List.setIfInBounds_toArray, List.set_cons_zero, List.set_cons_succ]
      refine take_dst 2 (some 38) rfl rfl (by kernel_rfl) (by kernel_rfl) (by kernel_rfl) (fun _ _ _ h => h) (v := ?_) (Or.inl ⟨by rfl, ?_⟩) (by assumption) ?_
      rotate_left
      · (intro w hSw; (try dsimp only at hSw); go_simp; try with_reducible rfl)
      simp only [Act.put, List.setIfInBounds_toArray, List.set_cons_zero, List.set_cons_succ]
      refine take_dst 3 (some 39) rfl rfl (by kernel_rfl) (by kernel_rfl) (by kernel_rfl) (fun _ _ _ h => h) (v := ?_) (Or.inl ⟨by rfl, ?_⟩) (by assumption) ?_
      rotate_left
      · (intro w hSw; (try dsimp only at hSw); go_simp; try with_reducible rfl)
      simp only [Act.put, List.setIfInBounds_toArray, List.set_cons_zero, List.set_cons_succ]
      refine take_dst 4 (some 40) rfl rfl (by kernel_rfl) (by kernel_rfl) (by kernel_rfl) (fun _ _ _ h => h) (v := ?_) (Or.inl ⟨by rfl, ?_⟩) (by assumption) ?_
      rotate_left
      · (intro w hSw; (try dsimp only at hSw); go_simp; try with_reducible rfl)
      simp only [Act.put, List.setIfInBounds_toArray, List.set_cons_zero, List.set_cons_succ]
      refine take_dst 5 (some 41) rfl rfl (by kernel_rfl) (by kernel_rfl) (by kernel_rfl) (fun _ _ _ h => h) (v := ?_) (Or.inl ⟨by rfl, ?_⟩) (by assumption) ?_
      rotate_left
      · (intro w hSw; (try dsimp only at hSw); go_simp; try with_reducible rfl)
      simp only [Act.put, List.setIfInBounds_toArray, List.set_cons_zero, List.set_cons_succ]
      refine take_dst 6 (some 42) rfl rfl (by kernel_rfl) (by kernel_rfl) (by kernel_rfl) (fun _ _ _ h => h) (v := ?_) (Or.inl ⟨by rfl, ?_⟩) (by assumption) ?_
      rotate_left
      · (intro w hSw; (try dsimp only at hSw); go_simp; try with_reducible rfl)
      simp only [Act.put, List.setIfInBounds_toArray, List.set_cons_zero, List.set_cons_succ]
      refine take_dst 7 (some 43) rfl rfl (by kernel_rfl) (by kernel_rfl) (by kernel_rfl) (fun _ _ _ h => h) (v := ?_) (Or.inl ⟨by rfl, ?_⟩) (by assumption) ?_
      rotate_left
      · (intro w hSw; (try dsimp only at hSw); go_simp; try with_reducible rfl)
      simp only [Act.put, List.setIfInBounds_toArray, List.set_cons_zero, List.set_cons_succ]
      refine take_dst 8 (some 44) rfl rfl (by kernel_rfl) (by kernel_rfl) (by kernel_rfl) (fun _ _ _ h => h) (v := ?_) (Or.inl ⟨by rfl, ?_⟩) (by assumption) ?_
      rotate_left
      · (intro w hSw; (try dsimp only at hSw); go_simp; try with_reducible rfl)
      simp only [Act.put, List.setIfInBounds_toArray, List.set_cons_zero, List.set_cons_succ]
      refine take_dst 9 (some 45) rfl rfl (by kernel_rfl) (by kernel_rfl) (by kernel_rfl) (fun _ _ _ h => h) (v := ?_) (Or.inl ⟨by rfl, ?_⟩) (by assumption) ?_
      rotate_left
      · (intro w hSw; (try dsimp only at hSw); go_simp; try with_reducible rfl)
      simp only [Act.put, List.setIfInBounds_toArray, List.set_cons_zero, List.set_cons_succ]
      refine take_dst 10 (some 46) rfl rfl (by kernel_rfl) (by kernel_rfl) (by kernel_rfl) (fun _ _ _ h => h) (v := ?_) (Or.inl ⟨by rfl, ?_⟩) (by assumption) ?_
      rotate_left
      · (intro w hSw; (try dsimp only at hSw); go_simp; try with_reducible rfl)
      simp only [Act.put, List.setIfInBounds_toArray, List.set_cons_zero, List.set_cons_succ]
      refine wpAnyH_ready (rs := [11]) (by kernel_rfl) (by simp) ?_
      refine AllReadyH.cons rfl (fun K hK => ?_) AllReadyH.nil
      go_simp
      refine hK.out _ _ ⟨C4.out _, Hs.out _ (Hb2.out _)⟩ (fun hHeld2 => ?_)
      clear hK K
      refine wpAnyH_done (by kernel_rfl) ?_ _
      clear hHeld hHeld2
      go_wp2_with fail
      refine bodyPost_ret (results_cell_row rfl _ _ (w.heap.size + 1) 57 #[.int .i64 0, .string str, .string new] (0, 0) _ rfl (HF.out _ _ _) Try.underlying57 rfl size57e) rfl ⟨⟨0, str, new, by omega, by omega⟩, rfl, Hb2.out _⟩
    · simp only [Value.slice.injEq, true_and] at e
      obtain ⟨rfl, rfl⟩ := e
      by_cases hce : vc = r
      · subst hce
        obtain rfl : L = vc := by omega
        obtain rfl : m = 0 := by omega
        obtain ⟨str, hs1, hs2⟩ := conv_none (some ⟨g', 0, none⟩) 0
        have qL : IntKind.i64.wrap (L : Int) = (L : Int) := IntWalk.i64_in _ (by omega)
        have Hs : Hid (∀ u : World, Below w.heap.size w u → (convert 22 9 (.slice (some ⟨g', 0, none⟩) 0 0)).run Try.prog u = .ok (.string str) u) := fun u _ => hs2 u
        go_enter Try.func36, Try.ntmps36
        go_wp2_with fail
        refine wp_region_held_drew (S := (fun u : World => u.cell? ⟨w.heap.size, 4, none⟩ = some (.string new) ∧ (convert 22 9 ((.slice (some ⟨g', 0, none⟩) 0 0))).run Try.prog u = .ok (.string str) u)) (by kernel_rfl) ⟨C4.out _, Hs.out _ (Hb2.out _)⟩ (fun hHeld => ?_)
        refine take_dst 0 (some 36) rfl rfl (by kernel_rfl) (by kernel_rfl) (by kernel_rfl) (fun _ _ _ h => h) (v := ?_) (Or.inl ⟨by rfl, ?_⟩) (by assumption) ?_
        rotate_left
        · (intro w hSw; (try dsimp only at hSw); go_simp; try with_reducible rfl)
        simp only [Act.put, List.setIfInBounds_toArray, List.set_cons_zero, List.set_cons_succ]
        refine take_dst 1 (some 37) rfl rfl (by kernel_rfl) (by kernel_rfl) (by kernel_rfl) (fun _ _ _ h => h) (v := ?_) (Or.inl ⟨by rfl, ?_⟩) (by assumption) ?_
        rotate_left
        · (intro w hSw; (try dsimp only at hSw); go_simp; try with_reducible rfl)
        simp only [Act.put, List.setIfInBounds_toArray, List.set_cons_zero, List.set_cons_succ]
        refine take_dst 2 (some 38) rfl rfl (by kernel_rfl) (by kernel_rfl) (by kernel_rfl) (fun _ _ _ h => h) (v := ?_) (Or.inl ⟨by rfl, ?_⟩) (by assumption) ?_
        rotate_left
        · (intro w hSw; (try dsimp only at hSw); go_simp; try with_reducible rfl)
        simp only [Act.put, List.setIfInBounds_toArray, List.set_cons_zero, List.set_cons_succ]
        refine take_dst 3 (some 39) rfl rfl (by kernel_rfl) (by kernel_rfl) (by kernel_rfl) (fun _ _ _ h => h) (v := ?_) (Or.inl ⟨by rfl, ?_⟩) (by assumption) ?_
        rotate_left
        · (intro w hSw; (try dsimp only at hSw); go_simp; try with_reducible rfl)
        simp only [Act.put, List.setIfInBounds_toArray, List.set_cons_zero, List.set_cons_succ]
        refine take_dst 4 (some 40) rfl rfl (by kernel_rfl) (by kernel_rfl) (by kernel_rfl) (fun _ _ _ h => h) (v := ?_) (Or.inl ⟨by rfl, ?_⟩) (by assumption) ?_
        rotate_left
        · (intro w hSw; (try dsimp only at hSw); go_simp; try with_reducible rfl)
        simp only [Act.put, List.setIfInBounds_toArray, List.set_cons_zero, List.set_cons_succ]
        refine take_dst 5 (some 41) rfl rfl (by kernel_rfl) (by kernel_rfl) (by kernel_rfl) (fun _ _ _ h => h) (v := ?_) (Or.inl ⟨by rfl, ?_⟩) (by assumption) ?_
        rotate_left
        · (intro w hSw; (try dsimp only at hSw); go_simp; try with_reducible rfl)
        simp only [Act.put, List.setIfInBounds_toArray, List.set_cons_zero, List.set_cons_succ]
        refine take_dst 6 (some 42) rfl rfl (by kernel_rfl) (by kernel_rfl) (by kernel_rfl) (fun _ _ _ h => h) (v := ?_) (Or.inl ⟨by rfl, ?_⟩) (by assumption) ?_
        rotate_left
        · (intro w hSw; (try dsimp only at hSw); go_simp; try with_reducible rfl)
        simp only [Act.put, List.setIfInBounds_toArray, List.set_cons_zero, List.set_cons_succ]
        refine take_dst 7 (some 43) rfl rfl (by kernel_rfl) (by kernel_rfl) (by kernel_rfl) (fun _ _ _ h => h) (v := ?_) (Or.inl ⟨by rfl, ?_⟩) (by assumption) ?_
        rotate_left
        · (intro w hSw; (try dsimp only at hSw); go_simp; try with_reducible rfl)
        simp only [Act.put, List.setIfInBounds_toArray, List.set_cons_zero, List.set_cons_succ]
        refine take_dst 8 (some 44) rfl rfl (by kernel_rfl) (by kernel_rfl) (by kernel_rfl) (fun _ _ _ h => h) (v := ?_) (Or.inl ⟨by rfl, ?_⟩) (by assumption) ?_
        rotate_left
        · (intro w hSw; (try dsimp only at hSw); go_simp; try with_reducible rfl)
        simp only [Act.put, List.setIfInBounds_toArray, List.set_cons_zero, List.set_cons_succ]
        refine take_dst 9 (some 45) rfl rfl (by kernel_rfl) (by kernel_rfl) (by kernel_rfl) (fun _ _ _ h => h) (v := ?_) (Or.inl ⟨by rfl, ?_⟩) (by assumption) ?_
        rotate_left
        · (intro w hSw; (try dsimp only at hSw); go_simp; try with_reducible rfl)
        simp only [Act.put, List.setIfInBounds_toArray, List.set_cons_zero, List.set_cons_succ]
        refine take_dst 10 (some 46) rfl rfl (by kernel_rfl) (by kernel_rfl) (by kernel_rfl) (fun _ _ _ h => h) (v := ?_) (Or.inl ⟨by rfl, ?_⟩) (by assumption) ?_
        rotate_left
        · (intro w hSw; (try dsimp only at hSw); go_simp; try with_reducible rfl)
        simp only [Act.put, List.setIfInBounds_toArray, List.set_cons_zero, List.set_cons_succ]
        refine wpAnyH_ready (rs := [11]) (by kernel_rfl) (by simp) ?_
        refine AllReadyH.cons rfl (fun K hK => ?_) AllReadyH.nil
        go_simp
        refine hK.out _ _ ⟨C4.out _, Hs.out _ (Hb2.out _)⟩ (fun hHeld2 => ?_)
        clear hK K
        refine wpAnyH_done (by kernel_rfl) ?_ _
        clear hHeld hHeld2
        go_wp2_with fail
        refine bodyPost_ret (results_cell_row rfl _ _ (w.heap.size + 1) 57 #[.int .i64 (L : Int), .string str, .string new] (0, 0) _ rfl (HF.out _ _ _) Try.underlying57 rfl size57e) rfl ⟨⟨(L : Int), str, new, by omega, by omega⟩, rfl, Hb2.out _⟩
      · have hce' : ¬ (vc : Int) = (r : Int) := by omega
        obtain ⟨str, hs1, hs2⟩ := conv_some g' r L vc B l m (vc - r) w Hlt.out HV.out (by omega)
        have Hs := hidden hs2
        have e1 : (0 : Int) ≤ (r : Int) + (m : Int) := by omega
        have e2 : (r : Int) + (m : Int) ≤ (vc : Int) := by omega
        have e3 : ((r : Int) + (m : Int)).toNat = r + m := by omega
        clear hs2
        go_enter Try.func36, Try.ntmps36
        go_wp2_with fail
        refine wp_region_held_drew (S := (fun u : World => u.cell? ⟨w.heap.size, 4, none⟩ = some (.string new) ∧ (convert 22 9 ((.slice (some ⟨g', r, none⟩) m (vc - r)))).run Try.prog u = .ok (.string str) u)) (by kernel_rfl) ⟨C4.out _, Hs.out _ (Hb2.out _)⟩ (fun hHeld => ?_)
        refine take_dst 0 (some 36) rfl rfl (by kernel_rfl) (by kernel_rfl) (by kernel_rfl) (fun _ _ _ h => h) (v := ?_) (Or.inl ⟨by rfl, ?_⟩) (by assumption) ?_
        rotate_left
        · (intro w hSw; (try dsimp only at hSw); go_simp; try with_reducible rfl)
        simp only [Act.put, List.setIfInBounds_toArray, List.set_cons_zero, List.set_cons_succ]
        refine take_dst 1 (some 37) rfl rfl (by kernel_rfl) (by kernel_rfl) (by kernel_rfl) (fun _ _ _ h => h) (v := ?_) (Or.inl ⟨by rfl, ?_⟩) (by assumption) ?_
        rotate_left
        · (intro w hSw; (try dsimp only at hSw); go_simp; try with_reducible rfl)
        simp only [Act.put, List.setIfInBounds_toArray, List.set_cons_zero, List.set_cons_succ]
        refine take_dst 2 (some 38) rfl rfl (by kernel_rfl) (by kernel_rfl) (by kernel_rfl) (fun _ _ _ h => h) (v := ?_) (Or.inl ⟨by rfl, ?_⟩) (by assumption) ?_
        rotate_left
        · (intro w hSw; (try dsimp only at hSw); go_simp; try with_reducible rfl)
        simp only [Act.put, List.setIfInBounds_toArray, List.set_cons_zero, List.set_cons_succ]
        refine take_dst 3 (some 39) rfl rfl (by kernel_rfl) (by kernel_rfl) (by kernel_rfl) (fun _ _ _ h => h) (v := ?_) (Or.inl ⟨by rfl, ?_⟩) (by assumption) ?_
        rotate_left
        · (intro w hSw; (try dsimp only at hSw); go_simp; try with_reducible rfl)
        simp only [Act.put, List.setIfInBounds_toArray, List.set_cons_zero, List.set_cons_succ]
        refine take_dst 4 (some 40) rfl rfl (by kernel_rfl) (by kernel_rfl) (by kernel_rfl) (fun _ _ _ h => h) (v := ?_) (Or.inl ⟨by rfl, ?_⟩) (by assumption) ?_
        rotate_left
        · (intro w hSw; (try dsimp only at hSw); go_simp; try with_reducible rfl)
        simp only [Act.put, List.setIfInBounds_toArray, List.set_cons_zero, List.set_cons_succ]
        refine take_dst 5 (some 41) rfl rfl (by kernel_rfl) (by kernel_rfl) (by kernel_rfl) (fun _ _ _ h => h) (v := ?_) (Or.inl ⟨by rfl, ?_⟩) (by assumption) ?_
        rotate_left
        · (intro w hSw; (try dsimp only at hSw); go_simp; try with_reducible rfl)
        simp only [Act.put, List.setIfInBounds_toArray, List.set_cons_zero, List.set_cons_succ]
        refine take_dst 6 (some 42) rfl rfl (by kernel_rfl) (by kernel_rfl) (by kernel_rfl) (fun _ _ _ h => h) (v := ?_) (Or.inl ⟨by rfl, ?_⟩) (by assumption) ?_
        rotate_left
        · (intro w hSw; (try dsimp only at hSw); go_simp; try with_reducible rfl)
        simp only [Act.put, List.setIfInBounds_toArray, List.set_cons_zero, List.set_cons_succ]
        refine take_dst 7 (some 43) rfl rfl (by kernel_rfl) (by kernel_rfl) (by kernel_rfl) (fun _ _ _ h => h) (v := ?_) (Or.inl ⟨by rfl, ?_⟩) (by assumption) ?_
        rotate_left
        · (intro w hSw; (try dsimp only at hSw); go_simp; try with_reducible rfl)
        simp only [Act.put, List.setIfInBounds_toArray, List.set_cons_zero, List.set_cons_succ]
        refine take_dst 8 (some 44) rfl rfl (by kernel_rfl) (by kernel_rfl) (by kernel_rfl) (fun _ _ _ h => h) (v := ?_) (Or.inl ⟨by rfl, ?_⟩) (by assumption) ?_
        rotate_left
        · (intro w hSw; (try dsimp only at hSw); go_simp; try with_reducible rfl)
        simp only [Act.put, List.setIfInBounds_toArray, List.set_cons_zero, List.set_cons_succ]
        refine take_dst 9 (some 45) rfl rfl (by kernel_rfl) (by kernel_rfl) (by kernel_rfl) (fun _ _ _ h => h) (v := ?_) (Or.inl ⟨by rfl, ?_⟩) (by assumption) ?_
        rotate_left
        · (intro w hSw; (try dsimp only at hSw); go_simp; try with_reducible rfl)
        simp only [Act.put, List.setIfInBounds_toArray, List.set_cons_zero, List.set_cons_succ]
        refine take_dst 10 (some 46) rfl rfl (by kernel_rfl) (by kernel_rfl) (by kernel_rfl) (fun _ _ _ h => h) (v := ?_) (Or.inl ⟨by rfl, ?_⟩) (by assumption) ?_
        rotate_left
        · (intro w hSw; (try dsimp only at hSw); go_simp; try with_reducible rfl)
        simp only [Act.put, List.setIfInBounds_toArray, List.set_cons_zero, List.set_cons_succ]
        refine wpAnyH_ready (rs := [11]) (by kernel_rfl) (by simp) ?_
        refine AllReadyH.cons rfl (fun K hK => ?_) AllReadyH.nil
        go_simp
        refine hK.out _ _ ⟨C4.out _, Hs.out _ (Hb2.out _)⟩ (fun hHeld2 => ?_)
        clear hK K
        refine wpAnyH_done (by kernel_rfl) ?_ _
        clear hHeld hHeld2
        go_wp2_with fail
        refine bodyPost_ret (results_cell_row rfl _ _ (w.heap.size + 1) 57 #[.int .i64 (r : Int), .string str, .string new] (0, 0) _ rfl (HF.out _ _ _) Try.underlying57 rfl size57e) rfl ⟨⟨(r : Int), str, new, by omega, by omega⟩, rfl, Hb2.out _⟩
end Go.Proofs.PlatenPiece
