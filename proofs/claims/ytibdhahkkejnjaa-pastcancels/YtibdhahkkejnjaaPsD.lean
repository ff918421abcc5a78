/- Edits; what a table's text becomes by one, whether it fits or not. -/
import Derived.Test.YtibdhahkkejnjaaPsA
import Derived.Test.YtibdhahkkejnjaaPsC
namespace Go.Proofs.PlatenPiece
open Go Go.RowKit
set_option linter.unusedVariables false
set_option maxRecDepth 100000

/-- An edit. -/
structure Ed where
  at' : Int
  old : ByteArray
  new : ByteArray
  ho : old.size ≤ 100000
  hn : new.size ≤ 100000
def Ed.val (e : Ed) : Value := .agg #[.int .i64 e.at', .string e.old, .string e.new]
def Ed.row (e : Ed) : List Value := [.int .i64 e.at', .string e.old, .string e.new]
def Ed.back (e : Ed) : Ed := ⟨e.at', e.new, e.old, e.hn, e.ho⟩
/-- A string's bytes. -/
def bts (s : ByteArray) : List Nat := s.data.toList.map (·.toNat)
theorem bts_len (s : ByteArray) : (bts s).length = s.size := by simp [bts]
theorem bts_lt (s : ByteArray) : ∀ c ∈ bts s, c < 256 := by
  intro c hc
  simp only [bts, List.mem_map] at hc
  obtain ⟨x, _, rfl⟩ := hc
  exact x.toNat_lt
def delL (l : List Nat) (a : Int) (n : Nat) : List Nat := if 0 ≤ a ∧ a + n ≤ (l.length : Int) then l.take a.toNat ++ l.drop (a.toNat + n) else l
def insL (l : List Nat) (a : Int) (m : List Nat) : List Nat := if (0 ≤ a ∧ a ≤ (l.length : Int)) ∧ l.length + m.length ≤ 65536 then l.take a.toNat ++ (m ++ l.drop a.toNat) else l
/-- What apply makes of a text. -/
def appL (l : List Nat) (e : Ed) : List Nat := insL (delL l e.at' e.old.size) e.at' (bts e.new)

set_option maxHeartbeats 2000000 in
theorem delete_bad {B : Nat} {w : World} {T c : Nat} {l : List Nat} {O : Nat → Prop} (h : Tx B w T l c O) (a : Int) (n : Nat) (hno : ¬ (0 ≤ a ∧ a + n ≤ (l.length : Int))) :
    Calls Try.prog 46 #[.pointer (some ⟨T, 0, none⟩), .int .i64 a, .int .i64 n] w fun e w' => (∃ x, e = .returned (.int .i64 x)) ∧ w' = w := by
  have hh := has_of _ (l.length : Int) a n w (tx_len h) (by omega) (by have := h.lim; omega)
  rw [decide_eq_false (by omega)] at hh
  have Hh := hidden hh
  clear hh h hno
  go_enter Try.func46, Try.ntmps46
  go_wp2_with fail
  refine Hh.out.mono ?_
  rintro e w' ⟨rfl, rfl⟩
  go_wp2
  go_ret
  exact ⟨⟨_, rfl⟩, rfl⟩
theorem tx_del {B : Nat} {w : World} {T c : Nat} {l : List Nat} {O : Nat → Prop} (h : Tx B w T l c O) (hc : c ≤ 4500) (a : Int) (n : Nat) :
    Calls Try.prog 46 #[.pointer (some ⟨T, 0, none⟩), .int .i64 a, .int .i64 n] w fun e w' => (∃ x, e = .returned (.int .i64 x)) ∧ ∃ O', Tx B w' T (delL l a n) (c + 1) O' ∧ Kept O w w' ∧ (∀ k, k < w.heap.size → O' k → O k) := by
  unfold delL
  by_cases hy : 0 ≤ a ∧ a + n ≤ (l.length : Int)
  · rw [if_pos hy]
    obtain ⟨m, rfl⟩ : ∃ m : Nat, a = m := ⟨a.toNat, by omega⟩
    refine (tx_delete h hc m n (by omega)).mono ?_
    rintro e w' ⟨rfl, O', h1, h2, h3⟩
    exact ⟨⟨_, rfl⟩, O', h1, h2, h3⟩
  · rw [if_neg hy]
    refine (delete_bad h a n hy).mono ?_
    rintro e w' ⟨he, rfl⟩
    exact ⟨he, O, h.more (Nat.le_succ c), Kept.refl _ _, fun _ _ h => h⟩
theorem tx_ins {B : Nat} {w : World} {T c : Nat} {l : List Nat} {O : Nat → Prop} (h : Tx B w T l c O) (hc : c ≤ 4500) (a : Int) (m : List Nat) (hm : m.length ≤ 100000) (v : Value) (hv : PlatenPiece.Src w v m) (ho : PlatenPiece.Outside O v) :
    Calls Try.prog 43 #[.pointer (some ⟨T, 0, none⟩), .int .i64 a, v] w fun e w' => (∃ x, e = .returned (.int .i64 x)) ∧ ∃ O', Tx B w' T (insL l a m) (c + 1) O' ∧ Kept O w w' ∧ (∀ k, k < w.heap.size → O' k → O k) := by
  unfold insL
  by_cases hy : 0 ≤ a ∧ a ≤ (l.length : Int)
  · obtain ⟨i, rfl⟩ : ∃ i : Nat, a = i := ⟨a.toNat, by omega⟩
    by_cases hz : l.length + m.length ≤ 65536
    · rw [if_pos ⟨hy, hz⟩]
      refine (tx_insert h hc i (by omega) m hz v hv ho).mono ?_
      rintro e w' ⟨rfl, O', h1, h2, h3⟩
      exact ⟨⟨_, rfl⟩, O', h1, h2, h3⟩
    · rw [if_neg (fun q => hz q.2)]
      have hX := h.more (Nat.le_succ c)
      have hl := h.lim
      obtain ⟨va, vc, rfl⟩ := hv.form
      obtain ⟨pv, ps, a', rfl, hT, rfl, h2, h3, h4, h5, h6⟩ := h
      rw [flat_len] at hz hy
      refine (insert_long B T pv ps _ a' i va m.length vc w hT (by omega) (by omega) (by omega) (by omega) (by omega)).mono ?_
      rintro e w' ⟨rfl, rfl⟩
      exact ⟨⟨_, rfl⟩, _, hX, Kept.refl _ _, fun _ _ h => h⟩
  · rw [if_neg (fun q => hy q.1)]
    refine (insert_bad _ (l.length : Int) a v w (Or.inr ⟨T, rfl⟩) (tx_len h) (by omega) (by have := h.lim; omega) (Or.inl hy)).mono ?_
    rintro e w' ⟨rfl, rfl⟩
    exact ⟨⟨_, rfl⟩, O, h.more (Nat.le_succ c), Kept.refl _ _, fun _ _ h => h⟩
end Go.Proofs.PlatenPiece
