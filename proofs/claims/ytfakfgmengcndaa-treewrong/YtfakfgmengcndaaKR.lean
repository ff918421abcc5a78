/- What is asked of the laws' texts: they aren't too much; what Items, Format answer, in one form. -/
import Derived.Test.YtfakfgmengcndaaKQ
import Derived.Test.YtfakfgmengcndaaKO
namespace Go.Proofs.PlatenTree
open Go Go.RowKit Go.Shelf
open Go.Proofs.PlatenLayout (str str_size It Ly IsItems lay s0 stepL sp most lay_le OkL)
set_option linter.unusedVariables false
set_option maxRecDepth 100000

theorem stepL_lt (w : Int) (s : Ly) (x : It) (r : List It) (hs : ∀ c ∈ s.p, c < 256) (hx : ∀ c ∈ x.tx, c < 256) : ∀ c ∈ (stepL w s x r).p, c < 256 := by
  have h32 : ∀ n, ∀ c ∈ sp n, c < 256 := fun n c hc => by rw [List.eq_of_mem_replicate hc]; decide
  unfold stepL
  split
  · intro c hc
    rcases List.mem_append.1 hc with h | h
    · exact hs c h
    · exact hx c h
  · split
    · exact hs
    · split
      · split <;> exact hs
      · split
        · split
          · intro c hc
            rcases List.mem_append.1 hc with h | h
            · exact hs c h
            · exact h32 _ c h
          · intro c hc
            rcases List.mem_append.1 hc with h | h
            · rcases List.mem_append.1 h with h | h
              · exact hs c h
              · simp at h; omega
            · exact h32 _ c h
        · exact hs
theorem lay_lt (w : Int) : ∀ (l : List It) (s : Ly) (q : List Nat), (∀ c ∈ s.p, c < 256) → (∀ x ∈ l, ∀ c ∈ x.tx, c < 256) → lay w l s = some q → ∀ c ∈ q, c < 256
  | [], s, q, h, hl, e => by
    unfold lay at e
    injection e with e
    rw [← e]; exact h
  | x :: r, s, q, h, hl, e => by
    unfold lay at e
    split at e
    · cases e
    · exact lay_lt w r _ q (stepL_lt w s x r h (hl x (by simp))) (fun y hy => hl y (by simp [hy])) e
theorem lay_some {w : Int} {l : List It} {q : List Nat} (ok : OkL l) (e : lay w l s0 = some q) : (∀ c ∈ q, c < 256) ∧ q.length ≤ 65536 :=
  ⟨lay_lt w l s0 q (fun c hc => by simp [s0] at hc) (fun x hx => (ok.2 x hx).tx) e, lay_le w l s0 q (by show 0 ≤ most; exact Nat.zero_le _) e⟩

theorem chn_le (x : List Nat) : chn x ≤ x.length := PlatenGlyph.cnt_le _ _
/-- A text that is laid out, if it can be read. -/
structure Pg (s : Bool) (p : List Nat) : Prop where
  lt : ∀ c ∈ p, c < 256
  len : p.length ≤ 1100
  items : ∀ P, rd s p = some P → (itms chn s 0 P).length ≤ 1500
  room : ∀ P, rd s p = some P → ∀ w : Int, ∃ q, lay w (itms chn s 0 P) s0 = some q
theorem rd_len {s : Bool} {p : List Nat} {P : List Pc} (h : rd s p = some P) : P.length ≤ p.length := by
  cases s with
  | true => exact read_cn sm_ok (c := ((0, 0) : Nat × Nat)) rfl (show read SM (0, 0) p = some P from h)
  | false => exact read_cn jm_ok (c := j0) rfl (show read JM j0 p = some P from h)
theorem pg_short {s : Bool} {p : List Nat} (hl : ∀ c ∈ p, c < 256) (hn : p.length ≤ 300) : Pg s p where
  lt := hl
  len := by omega
  items := fun P h => by have := (itms_len chn s P 0).1; have := rd_len h; omega
  room := fun P h w => short_room300 w chn chn_le h hn
theorem pg_grown (s : Bool) {l : List Nd} (hl : l.length ≤ 40) : Pg s (mk s 9 l).1 where
  lt := mk_lt s 9 l
  len := by have := mk_len s 9 l; omega
  items := fun P h => by
    have hne := rd_ne h
    have hlp := len_totb P hne
    obtain ⟨i1, i2⟩ := itms_len chn s P 0
    cases s with
    | true =>
      obtain ⟨P', h', t1, _⟩ := grown_s l hl
      rw [h] at h'
      injection h' with h'
      subst h'
      omega
    | false =>
      obtain ⟨P', h', t1, t2⟩ := grown_j l hl
      rw [h] at h'
      injection h' with h'
      subst h'
      have := i2 rfl
      omega
  room := fun P h w => by
    obtain ⟨P', q, h', hq⟩ := grown_room s w chn chn_le l hl
    rw [h] at h'
    injection h' with h'
    subst h'
    exact ⟨q, hq⟩
theorem grown_rd (s : Bool) {l : List Nd} (hl : l.length ≤ 40) : ∃ P, rd s (mk s 9 l).1 = some P := by
  obtain ⟨P, _, h, _⟩ := grown_room s 0 chn chn_le l hl
  exact ⟨P, h⟩
theorem srun_nil (f : Nat → Nat) : ∀ (k i : Nat) (M : PlatenSexp.Sm), (PlatenSexp.run f k i M).2.2 ≠ 0 → (PlatenSexp.run f k i M).1 = []
  | 0, i, M, h => by
    have key : ∀ M : PlatenSexp.Sm, (PlatenSexp.finA M i).2.2 ≠ 0 → (PlatenSexp.finA M i).1 = [] := by
      intro M h
      unfold PlatenSexp.finA at h ⊢
      split
      · rfl
      · rename_i q; rw [if_neg q] at h; exact absurd rfl h
    exact key _ h
  | k + 1, i, M, h => by
    unfold PlatenSexp.run at h ⊢
    split
    · rename_i q; rw [if_pos q] at h; exact srun_nil f k (i + 1) _ h
    · rfl
theorem jrun_nil (f : Nat → Nat) : ∀ (k i : Nat) (M : PlatenJson.Mc), (PlatenJson.run f k i M).2.2 ≠ 0 → (PlatenJson.run f k i M).1 = []
  | 0, i, M, h => by
    have key : ∀ M : PlatenJson.Mc, (PlatenJson.finA M i).2.2 ≠ 0 → (PlatenJson.finA M i).1 = [] := by
      intro M h
      unfold PlatenJson.finA at h ⊢
      split
      · rfl
      · rename_i q; rw [if_neg q] at h; exact absurd rfl h
    exact key _ h
  | k + 1, i, M, h => by
    unfold PlatenJson.run at h ⊢
    split
    · rename_i q; rw [if_pos q] at h; exact jrun_nil f k (i + 1) _ h
    · rfl
theorem ansL_nil {s : Bool} {p : List Nat} (h : (ansL s p).2.2 ≠ 0) : (ansL s p).1 = [] := by
  cases s with
  | true => exact srun_nil _ _ _ _ h
  | false => exact jrun_nil _ _ _ _ h
/-- How many tokens. -/
theorem ansL_len (s : Bool) (p : List Nat) : (ansL s p).1.length ≤ p.length := by
  cases hr : rd s p with
  | none => rw [ansL_nil (ansL_no hr)]; exact Nat.zero_le _
  | some P =>
    obtain ⟨T, eT, hP, _⟩ := ansL_ok hr
    rw [eT]
    have h1 := rd_len hr
    have h2 : T.length = P.length := by rw [← hP, List.length_map]
    show T.length ≤ _
    omega
/-- The items of a text; none, if it can't be read. -/
def itL (s : Bool) (p : List Nat) : List It := match rd s p with | none => [] | some P => itms chn s 0 P
theorem itL_len (s : Bool) (p : List Nat) : (itL s p).length ≤ 3 * p.length := by
  unfold itL
  cases h : rd s p with
  | none => exact Nat.zero_le _
  | some P =>
    have := (itms_len chn s P 0).1
    have := rd_len h
    show (itms chn s 0 P).length ≤ _
    omega
theorem itRes_one {s : Bool} {p : List Nat} {w : World} {e : Ending} {w' : World} (h : ItRes s p w e w') : ∃ u, e = .returned (.tuple #[u, .int .i64 ((ansL s p).2.1 : Nat), .int .i64 ((ansL s p).2.2 : Nat)]) ∧ IsItems w' u (itL s p) := by
  unfold ItRes at h
  unfold itL
  cases hr : rd s p with
  | none =>
    rw [hr] at h
    exact ⟨_, h, none, 0, rfl, Nat.le_refl _, fun q => absurd q (Nat.lt_irrefl _)⟩
  | some P =>
    rw [hr] at h
    obtain ⟨u, h1, h2⟩ := h
    obtain ⟨T, eT, _, _⟩ := ansL_ok hr
    rw [eT]
    exact ⟨u, h1, h2⟩
/-- What is laid out of a text. -/
theorem fmt_no {s : Bool} {p : List Nat} (wd : Int) (h : rd s p = none) : fmt s wd p = .tuple #[.string ByteArray.empty, .int .i64 ((ansL s p).2.1 : Nat), .int .i64 ((ansL s p).2.2 : Nat)] := by unfold fmt; rw [h]
theorem fmt_yes {s : Bool} {p q : List Nat} {P : List Pc} {wd : Int} (h : rd s p = some P) (hq : lay wd (itms chn s 0 P) s0 = some q) : fmt s wd p = .tuple #[.string (str q), .int .i64 0, .int .i64 0] := by
  unfold fmt
  rw [h]
  simp only
  rw [hq]
  rfl
/-- What is laid out: bytes, not too many, read as the same. -/
theorem laid_out {s : Bool} {p q : List Nat} {P : List Pc} {wd : Int} (hg : Pg s p) (h : rd s p = some P) (hq : lay wd (itms chn s 0 P) s0 = some q) : (∀ c ∈ q, c < 256) ∧ q.length ≤ 65536 ∧ rd s q = some P := by
  have ok := okL_itms h hg.lt (by have := hg.len; omega) (hg.items P h)
  exact ⟨(lay_some ok hq).1, (lay_some ok hq).2, stays h hq⟩
/-- []byte(q). -/
theorem conv_rowL (w : World) (q : List Nat) (h : ∀ c ∈ q, c < 256) (hl : q.length ≤ 100000) : ∃ cap w2, (convert 9 22 (.string (str q))).run Try.prog w = .ok (.slice (some ⟨w.heap.size, 0, none⟩) q.length cap) w2 ∧ RowL w2 (.slice (some ⟨w.heap.size, 0, none⟩) q.length cap) q ∧ w.grownBy w2 none := by
  obtain ⟨cap, w2, h1, h2, h3⟩ := PlatenLayout.conv_bytes w q h hl
  refine ⟨cap, w2, h1, ?_, h3⟩
  obtain ⟨_, _, h4⟩ := h2
  rcases h4 with ⟨_, _, _, h5⟩ | ⟨b, off, cap', h4, hc, hr⟩
  · exact ⟨_, _, rfl, fun h0 => by omega⟩
  · injection h4 with e1 e2 e3
    injection e1 with e1
    injection e1 with e4 e5
    subst e3 e4 e5
    exact ⟨_, _, rfl, fun _ => ⟨_, _, rfl, hc, hr⟩⟩
end Go.Proofs.PlatenTree
