/- A table told by its text alone, and its own blocks; what becomes of it where other blocks change. -/
import Derived.Test.YtibdhahkkejnjaaBackA
import Derived.Test.YtibdhahkkejnjaaTabN
namespace Go.Proofs.PlatenPiece
open Go Go.RowKit
set_option linter.unusedVariables false

theorem Del.flat {ps ps' : List Pc} {at' n : Nat} (h : Del ps at' n ps') : PlatenPiece.flat ps' = (PlatenPiece.flat ps).take at' ++ (PlatenPiece.flat ps).drop (at' + n) := by
  obtain ⟨i, ps1, j, ps2, h1, h2, hij, ht, rfl⟩ := h
  obtain ⟨f1, l1⟩ := h1.flat
  obtain ⟨f2, l2⟩ := h2.flat
  have a1 := (flat_cut ps1 i at' l1).1
  have a2 := (flat_cut ps2 j (at' + n) l2).2
  rw [flat_app, ht, ← a1, ← a2, f1, f2, f1]
theorem Del.len {ps ps' : List Pc} {at' n : Nat} (h : Del ps at' n ps') : ps'.length ≤ ps.length + 2 := by
  obtain ⟨i, ps1, j, ps2, h1, h2, hij, ht, rfl⟩ := h
  have a1 := h1.le
  have a2 := h2.le
  simp only [List.length_append, List.length_take, List.length_drop]
  omega
theorem Del.ks {ps ps' : List Pc} {at' n : Nat} {lo hi : Int} (h : Del ps at' n ps') (hS : lenSum ps ≤ 65536) (hk : ∀ p ∈ ps, lo ≤ p.k ∧ p.k ≤ hi) : ∀ p ∈ ps', lo - 131072 ≤ p.k ∧ p.k ≤ hi := by
  obtain ⟨i, ps1, j, ps2, h1, h2, hij, ht, rfl⟩ := h
  have a1 := h1.ks hS hk
  have a2 := h2.ks (by rw [h1.sum]; exact hS) a1
  intro p hp
  have hm : p ∈ ps2 := by
    rcases List.mem_append.1 hp with hp | hp
    · exact List.mem_of_mem_take hp
    · exact List.mem_of_mem_drop hp
  have := a2 p hm
  omega
theorem Ins.ks {ps ps' : List Pc} {at' : Nat} {l : List Nat} {a lo hi : Int} (h : Ins ps at' l a ps') (hS : lenSum ps ≤ 65536) (hk : ∀ p ∈ ps, lo ≤ p.k ∧ p.k ≤ hi) (hlo : lo ≤ 0) (ha : 0 ≤ a) (hhi : a + (l.length : Int) ≤ hi) : ∀ p ∈ ps', lo - 65536 ≤ p.k ∧ p.k ≤ hi := by
  obtain ⟨i, ps1, h1, h2⟩ := h
  have a1 := h1.ks hS hk
  intro p hp
  rcases h2 with ⟨_, q, rfl⟩ | ⟨_, _, r, q, _, _, rfl⟩
  · simp only [List.mem_append, List.mem_cons, List.not_mem_nil, or_false] at hp
    rcases hp with hp | rfl | hp
    · exact a1 p (List.mem_of_mem_take hp)
    · simp only; omega
    · exact a1 p (List.mem_of_mem_drop hp)
  · simp only [List.mem_append, List.mem_cons, List.not_mem_nil, or_false] at hp
    rcases hp with hp | rfl | hp
    · exact a1 p (List.mem_of_mem_take hp)
    · simp only; omega
    · exact a1 p (List.mem_of_mem_drop hp)

/-- A row that stands where its block does. -/
theorem row_same {B : Nat} {w w' : World} {e : TypeId} {s n : Nat} {v : Value} {xs : List Value} (h : w.ownsRow B e s v n xs) (hb : ∀ k, v.ownBlock = some k → w'.heap[k]? = w.heap[k]?) : w'.ownsRow B e s v n xs := by
  obtain ⟨h0, h1⟩ := h
  refine ⟨h0, ?_⟩
  rcases h1 with h1 | ⟨g, cap, cur, e1, e2, e3, e4⟩
  · exact Or.inl h1
  · exact Or.inr ⟨g, cap, cur, e1, e2, (hb g (by rw [e1]; rfl)).trans e3, e4⟩
theorem row_ty {B : Nat} {w : World} {e : TypeId} {s n : Nat} {v : Value} {xs : List Value} (h : w.ownsRow B e s v n xs) {k : Nat} (hk : v.ownBlock = some k) : ∃ c, w.heap[k]? = some (.cells c e (0, 0)) := by
  rcases h.2 with ⟨e', _⟩ | ⟨g, cap, cur, e1, e2, e3, e4⟩
  · rw [e'] at hk; cases hk
  · rw [e1] at hk
    simp only [Value.ownBlock, Option.some.injEq] at hk
    subst hk
    exact ⟨_, e3⟩

/-- The table at T has the text l; O names its blocks; c counts what was done to it. -/
def Tx (B : Nat) (w : World) (T : Nat) (l : List Nat) (c : Nat) (O : Nat → Prop) : Prop :=
  ∃ pv ps a, O = PlatenPiece.Own T pv ps ∧ Tab B w T pv ps (lenSum ps) a ∧ flat ps = l ∧ lenSum ps ≤ 65536 ∧ ps.length ≤ 4 * c + 1 ∧ (0 ≤ a ∧ a ≤ 65536 * (c : Int)) ∧ (∀ p ∈ ps, -196608 * (c : Int) ≤ p.k ∧ p.k ≤ 65536 * (c : Int)) ∧ B ≤ w.heap.size

theorem Tx.lim {B : Nat} {w : World} {T c : Nat} {l : List Nat} {O : Nat → Prop} (h : Tx B w T l c O) : l.length ≤ 65536 := by
  obtain ⟨pv, ps, a, _, _, hf, hs, _⟩ := h
  rw [← hf, flat_len]; exact hs
theorem Tx.own {B : Nat} {w : World} {T c : Nat} {l : List Nat} {O : Nat → Prop} (h : Tx B w T l c O) : ∀ k, O k → B ≤ k ∧ k < w.heap.size := by
  obtain ⟨pv, ps, a, rfl, hT, _⟩ := h
  exact fun k hk => hT.own_lt hk
theorem Tx.ty {B : Nat} {w : World} {T c : Nat} {l : List Nat} {O : Nat → Prop} (h : Tx B w T l c O) : ∀ k, O k → ∃ x t, w.heap[k]? = some (.cells x t (0, 0)) ∧ (t = 78 ∨ t = 81 ∨ t = 5) := by
  obtain ⟨pv, ps, a, rfl, hT, _⟩ := h
  intro k hk
  rcases hk with rfl | hk | ⟨p, hp, hk⟩
  · exact ⟨_, _, hT.head, Or.inl rfl⟩
  · obtain ⟨x, hx⟩ := row_ty hT.row hk
    exact ⟨x, _, hx, Or.inr (Or.inl rfl)⟩
  · obtain ⟨x, hx⟩ := row_ty (hT.good p hp).1 hk
    exact ⟨x, _, hx, Or.inr (Or.inr rfl)⟩
/-- The table stands where its blocks do. -/
theorem Tx.same {B : Nat} {w w' : World} {T c : Nat} {l : List Nat} {O : Nat → Prop} (h : Tx B w T l c O) (hs : w.heap.size ≤ w'.heap.size) (hb : ∀ k, O k → w'.heap[k]? = w.heap[k]?) : Tx B w' T l c O := by
  obtain ⟨pv, ps, a, rfl, hT, hf, h2, h3, h4, h5, h6⟩ := h
  refine ⟨pv, ps, a, rfl, ⟨hT.low, (hb T (Or.inl rfl)).trans hT.head, row_same hT.row (fun k hk => hb k (Or.inr (Or.inl hk))), fun p hp => ⟨row_same (hT.good p hp).1 (fun k hk => hb k (Or.inr (Or.inr ⟨p, hp, hk⟩))), (hT.good p hp).2⟩, hT.apart⟩, hf, h2, h3, h4, h5, by omega⟩
theorem Tx.keep {B : Nat} {w w' : World} {T c : Nat} {l : List Nat} {O O' : Nat → Prop} (h : Tx B w T l c O) (hK : Kept O' w w') (ho : ∀ k, O k → ¬ O' k) : Tx B w' T l c O :=
  h.same hK.size (fun k hk => hK.block k (h.own k hk).2 (ho k hk))
theorem Tx.grown {B : Nat} {w w' : World} {T c : Nat} {l : List Nat} {O : Nat → Prop} (h : Tx B w T l c O) (hg : w.grownBy w' none) : Tx B w' T l c O :=
  h.same hg.size (fun k hk => hg.block k (h.own k hk).2 (by simp))
theorem Tx.more {B : Nat} {w : World} {T c c' : Nat} {l : List Nat} {O : Nat → Prop} (h : Tx B w T l c O) (hc : c ≤ c') : Tx B w T l c' O := by
  obtain ⟨pv, ps, a, rfl, hT, hf, h2, h3, h4, h5, h6⟩ := h
  refine ⟨pv, ps, a, rfl, hT, hf, h2, by omega, by omega, fun p hp => by have := h5 p hp; omega, h6⟩

/-! What the table's functions come to, told so. -/
theorem tx_len {B : Nat} {w : World} {T c : Nat} {l : List Nat} {O : Nat → Prop} (h : Tx B w T l c O) :
    Calls Try.prog 20 #[.pointer (some ⟨T, 0, none⟩)] w fun e w' => e = .returned (.int .i64 (l.length : Nat)) ∧ w' = w := by
  obtain ⟨pv, ps, a, rfl, hT, rfl, _⟩ := h
  rw [flat_len]
  exact len_tab B T pv ps _ a w hT
theorem tx_slice {B : Nat} {w : World} {T c : Nat} {l : List Nat} {O : Nat → Prop} (h : Tx B w T l c O) (hc : c ≤ 4500) (a n : Nat) (han : a + n ≤ l.length) :
    Calls Try.prog 48 #[.pointer (some ⟨T, 0, none⟩), .int .i64 a, .int .i64 n] w fun e w' => e = .returned (.tuple #[.slice (some ⟨w.heap.size, 0, none⟩) n n, .bool true]) ∧
      w'.heap[w.heap.size]? = some (.cells (bytesV ((l.drop a).take n)).toArray 5 (0, 0)) ∧ w.grownBy w' none := by
  obtain ⟨pv, ps, a', rfl, hT, rfl, h2, h3, _⟩ := h
  rw [flat_len] at han
  exact slice_tab B T pv ps _ a' a n w hT (by omega) rfl h2 han
theorem tx_slice_no {B : Nat} {w : World} {T c : Nat} {l : List Nat} {O : Nat → Prop} (h : Tx B w T l c O) (a n : Int) (hno : ¬ (0 ≤ a ∧ a ≤ (l.length : Int) ∧ 0 ≤ n ∧ n ≤ (l.length : Int) - a)) :
    Calls Try.prog 48 #[.pointer (some ⟨T, 0, none⟩), .int .i64 a, .int .i64 n] w fun e w' => e = .returned (.tuple #[.slice none 0 0, .bool false]) ∧ w' = w :=
  slice_no _ (l.length : Int) a n w (tx_len h) (by omega) (by have := h.lim; omega) hno
theorem tx_bytes {B : Nat} {w : World} {T c : Nat} {l : List Nat} {O : Nat → Prop} (h : Tx B w T l c O) (hc : c ≤ 4500) :
    Calls Try.prog 22 #[.pointer (some ⟨T, 0, none⟩)] w fun e w' => e = .returned (.slice (some ⟨w.heap.size, 0, none⟩) l.length l.length) ∧
      w'.heap[w.heap.size]? = some (.cells (bytesV l).toArray 5 (0, 0)) ∧ w.grownBy w' none := by
  obtain ⟨pv, ps, a', rfl, hT, rfl, h2, h3, _⟩ := h
  rw [flat_len]
  exact bytes_tab B T pv ps _ a' w hT (by omega) rfl h2
theorem tx_delete {B : Nat} {w : World} {T c : Nat} {l : List Nat} {O : Nat → Prop} (h : Tx B w T l c O) (hc : c ≤ 4500) (at' n : Nat) (hat : at' + n ≤ l.length) :
    Calls Try.prog 46 #[.pointer (some ⟨T, 0, none⟩), .int .i64 at', .int .i64 n] w fun e w' => e = .returned (.int .i64 0) ∧ ∃ O', Tx B w' T (l.take at' ++ l.drop (at' + n)) (c + 1) O' ∧ Kept O w w' ∧ (∀ k, k < w.heap.size → O' k → O k) := by
  obtain ⟨pv, ps, a, rfl, hT, rfl, h2, h3, h4, h5, h6⟩ := h
  rw [flat_len] at hat
  refine (delete_tab B T pv ps _ a at' n w hT h6 (by omega) rfl hat h2 (fun p hp => by have := h5 p hp; omega)).mono ?_
  rintro e w' ⟨rfl, pv', ps', hT', hD, hK, hO⟩
  have hsz : (lenSum ps' : Int) = (lenSum ps : Int) - (n : Int) := by
    have := congrArg List.length hD.flat
    rw [flat_len, List.length_append, List.length_take, List.length_drop, flat_len] at this
    omega
  refine ⟨rfl, _, ⟨pv', ps', a, rfl, by rw [hsz]; exact hT', hD.flat, by omega, by have := hD.len; omega, by omega, fun p hp => by have := hD.ks h2 h5 p hp; omega, by have := hK.size; omega⟩, hK, hO⟩
theorem tx_insert {B : Nat} {w : World} {T c : Nat} {l : List Nat} {O : Nat → Prop} (h : Tx B w T l c O) (hc : c ≤ 4500) (at' : Nat) (hat : at' ≤ l.length) (m : List Nat) (hm : l.length + m.length ≤ 65536) (v : Value) (hv : PlatenPiece.Src w v m) (ho : PlatenPiece.Outside O v) :
    Calls Try.prog 43 #[.pointer (some ⟨T, 0, none⟩), .int .i64 at', v] w fun e w' => e = .returned (.int .i64 0) ∧ ∃ O', Tx B w' T (l.take at' ++ (m ++ l.drop at')) (c + 1) O' ∧ Kept O w w' ∧ (∀ k, k < w.heap.size → O' k → O k) := by
  by_cases hm0 : m.length = 0
  · obtain rfl := List.length_eq_zero_iff.1 hm0
    have hX := h.more (Nat.le_succ c)
    obtain ⟨pv, ps, a, rfl, hT, rfl, h2, h3, h4, h5, h6⟩ := h
    rw [flat_len] at hat
    obtain ⟨va, vc, rfl⟩ := hv.form
    simp only [List.length_nil]
    refine (insert_zero B T pv ps _ a at' va vc w hT (by omega) (by omega) (by omega)).mono ?_
    rintro e w' ⟨rfl, rfl⟩
    refine ⟨rfl, _, by rw [List.nil_append, List.take_append_drop]; exact hX, Kept.refl _ _, fun _ _ h => h⟩
  · obtain ⟨pv, ps, a, rfl, hT, rfl, h2, h3, h4, h5, h6⟩ := h
    rw [flat_len] at hat hm
    refine (insert_tab B T pv ps _ a at' v m w hT h6 (by omega) rfl hat hm (by omega) hv ho (fun p hp => by have := h5 p hp; omega) (by omega)).mono ?_
    rintro e w' ⟨rfl, pv', ps', hT', hI, hK, hO⟩
    have hsz := hI.sum hat
    refine ⟨rfl, _, ⟨pv', ps', a + m.length, rfl, by rw [hsz]; push_cast; exact hT', hI.flat, by omega, by have := hI.len; omega, by omega, fun p hp => by
      have := hI.ks (lo := -196608 * (c : Int)) (hi := 65536 * ((c + 1 : Nat) : Int)) h2 (fun p hp => by have := h5 p hp; omega) (by omega) (by omega) (by omega) p hp
      omega, by have := hK.size; omega⟩, hK, hO⟩
end Go.Proofs.PlatenPiece
