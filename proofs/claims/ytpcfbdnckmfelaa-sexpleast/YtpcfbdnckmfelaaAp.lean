/- append(row, s...) where s may be nil. -/
import Derived.Test.YtpcfbdnckmfelaaSl
import Derived.Laws.AppendOwnNone
namespace Go.Proofs.Ytpcfbdnckmfelaa
open Go.ChangeShapes Go.WideShapes Go.ChangeAt Go.RowKit Go.Proofs.PlatenSexp
set_option linter.unusedVariables false
set_option maxRecDepth 100000

theorem rowL_ones (l : List Nat) : ∀ u ∈ rowL l, u.oneCell' = true := by
  intro u hu
  obtain ⟨c, _, rfl⟩ := List.mem_map.1 hu
  rfl
/-- The first n values of a function. -/
def listOf (f : Nat → Nat) (n : Nat) : List Nat := (List.range n).map f
theorem listOf_len (f : Nat → Nat) (n : Nat) : (listOf f n).length = n := by simp [listOf]
theorem rowG_eq (f : Nat → Nat) (n : Nat) : rowG f n = rowL (listOf f n) := by simp [rowG, rowL, listOf]
theorem fOf_listOf (f : Nat → Nat) (n j : Nat) (h : j < n) : fOf (listOf f n) j = f j := by
  rw [fOf_get _ _ (by rw [listOf_len]; exact h)]; simp [listOf]
theorem listOf_lt {f : Nat → Nat} (hf : ∀ j, f j < 256) (n : Nat) : ∀ c ∈ listOf f n, c < 256 := by
  intro c hc
  obtain ⟨j, _, rfl⟩ := List.mem_map.1 hc
  exact hf j
/-- A slice that may be appended: the nil one, or one with an address. -/
def Src (w : World) (v : Value) (M : List Nat) : Prop :=
  (v = .slice none 0 0 ∧ M = []) ∨ ∃ ad cap, v = .slice (some ad) M.length cap ∧ ∀ j u, (rowL M)[j]? = some u → w.cell? (ad.add j) = some u
theorem Src.below {w w' : World} {v : Value} {M : List Nat} (h : Src w v M) (hb : Below w.heap.size w w') : Src w' v M := by
  rcases h with h | ⟨ad, cap, hv, hc⟩
  · exact Or.inl h
  · refine Or.inr ⟨ad, cap, hv, fun j u hj => ?_⟩
    have := hc j u hj
    rw [hb.cell (p := ad.add j) (World.block_lt_of_cell? _ _ this)]
    exact this
theorem src_own {w : World} {B : Nat} {v : Value} {n : Nat} {L : List Nat} (hn : n = L.length) (h : w.ownsRow B 5 1 v n (rowL L)) : Src w v L := by
  subst hn
  have hcl := fun b => h.cells (g := b)
  rcases h.2 with ⟨rfl, h0⟩ | ⟨b, cap, cur, rfl, hbg, hg, hnc, hcm, hcs, htake⟩
  · exact Or.inl ⟨rfl, List.eq_nil_of_length_eq_zero h0⟩
  · exact Or.inr ⟨_, _, rfl, fun j u hj => hcl b rfl j u hj⟩
/-- A piece from the front. -/
theorem src_head {w : World} {ad : Addr} {n cap : Nat} {L : List Nat} (h : ∀ j u, (rowL L)[j]? = some u → w.cell? (ad.add j) = some u) (m : Nat) (hm : m ≤ L.length) : Src w (.slice (some ad) m cap) (L.take m) := by
  refine Or.inr ⟨ad, cap, by rw [List.length_take, Nat.min_eq_left hm], fun j u hj => h j u ?_⟩
  simp only [rowL, List.map_take] at hj ⊢
  rw [List.getElem?_take] at hj
  split at hj
  · exact hj
  · cases hj
theorem Row.head {w : World} {a : Option Addr} {n cap : Nat} {f : Nat → Nat} (h : Row w (.slice a n cap) n f) {m : Nat} (hm : m ≤ n) : Row w (.slice a m cap) m f := by
  obtain ⟨a', cap', e, h⟩ := h
  injection e with e1 e2 e3
  subst e1 e3
  refine ⟨_, _, rfl, fun hp => ?_⟩
  obtain ⟨b, off, rfl, hc, hr⟩ := h (by omega)
  exact ⟨b, off, rfl, by omega, fun j hj => hr j (by omega)⟩
theorem grown_refl (w : World) (row : Option Nat) : w.grownBy w row := ⟨rfl, rfl, rfl, Nat.le_refl _, fun _ _ _ => rfl⟩
theorem append_src {ops : Array Oper} {rest : List Oper} {o : Oper} {a : Act} {Q : Exit → Act → World → Prop} {w : World} (hgd : o.guard = none) (s x : Operand)
    (ho : o.op = .call { callee := .builtin .append, args := #[s, x], argTypes := #[22, 22] }) (base : Nat) (v : Value) (L : List Nat) (hs : a.eval s = v) (hown : w.ownsRow base 5 1 v L.length (rowL L))
    (sv : Value) (M : List Nat) (hx : a.eval x = sv) (hsrc : Src w sv M) (hn : L.length ≤ 100000) (hm : M.length ≤ 100000) (hbase : base ≤ w.heap.size)
    (h : ∀ v' w', w'.ownsRow base 5 1 v' (L ++ M).length (rowL (L ++ M)) → w.grownBy w' v.ownBlock → wpList Try.prog ops Q rest (a.put o.dst v') w') : wpList Try.prog ops Q (o :: rest) a w := by
  obtain ⟨i0, hi, hz0, hz1, hz2⟩ := info_parts info5
  rcases hsrc with ⟨rfl, rfl⟩ | ⟨ad, cap, rfl, hc⟩
  · refine wpList_append_own_none hgd s x 22 ho base 5 i0 1 Try.underlying22 hi v L.length (rowL L) hs hown hx (h v w ?_ (grown_refl _ _))
    rw [List.append_nil]; exact hown
  · exact wpList_append_own w hgd s x 22 ho base 5 i0 (.int .u8 0) 1 1 Try.underlying22 hi hz0 hz1 hz2 rfl (by decide) v L.length (rowL L) hs hown ad M.length cap (rowL M) hx (by rw [rowL_len, Nat.mul_one]) hc (rowL_ones _) (by unfold maxLen; omega) (by omega) hbase fun v' w' h1 h2 _ => h v' w' (by rw [List.length_append, rowL_app]; exact h1) h2
theorem below_append' {B : Nat} {e : TypeId} {w wr w1 : World} {v : Value} {n : Nat} {xs : List Value} (hB : B ≤ wr.heap.size) (hown : wr.ownsRow B e 1 v n xs) (hnx : Below B w wr) (hg : wr.grownBy w1 v.ownBlock) : Below B w w1 :=
  hnx.grown hg hB (fun j hj => (hown.lt j hj).1)

/-- A slice of bytes that comes in and may be appended. -/
def IsArgS (w : World) (v : Value) (n : Nat) (f : Nat → Nat) : Prop := IsArg w v n f ∧ Src w v (listOf f n)
theorem open_src {H : Type} {enc : TypeId × Value → H} {W : World} {base : Nat} {v : Value} {d : DataW H} {p : List MemPlace} (hv : Value.okWide Try.prog W .any base 22 v)
    (h : DataW.Trod enc Try.prog W 0 (fun _ => true) true 22 v d p) : ∃ n f, IsArgS W v n f := by
  obtain ⟨a, len, cap, rfl⟩ := okWide_slice Try.underlying22 hv
  obtain ⟨fuel, hf⟩ := h
  rcases open_ints Try.underlying22 Try.underlying5 c5 hf with ⟨hcs, _⟩ | ⟨x, l, c, zs, hcs, _, hl, hm, hz, _, hcell, hwz⟩
  · simp [Value.cells] at hcs
    obtain ⟨rfl, rfl, rfl⟩ := hcs
    exact ⟨0, fun _ => 0, ⟨fun _ => (by decide : 0 < 256), by omega, none, 0, rfl, fun h => absurd h (Nat.lt_irrefl _)⟩, Or.inl ⟨rfl, rfl⟩⟩
  · simp [Value.cells] at hcs
    obtain ⟨rfl, rfl, rfl⟩ := hcs
    obtain ⟨f, hf⟩ := isArg_of (w := W) (n := len) (by simpa using hz) hl hm hcell hwz
    refine ⟨len, f, hf, Or.inr ⟨x, cap, by rw [listOf_len], fun j u hj => ?_⟩⟩
    obtain ⟨_, _, a', cap', hva, hrow⟩ := hf
    injection hva with e1 e2 e3
    by_cases hjn : j < len
    · obtain ⟨b, off, hab, _, hc⟩ := hrow (by omega)
      rw [hab] at e1
      injection e1 with e1
      subst e1
      have := hc j hjn
      simp only [rowL, listOf, List.map_map, List.getElem?_map, List.getElem?_range hjn, Option.map_some, Function.comp, Option.some.injEq] at hj
      rw [← hj]
      by_cases h0 : j = 0
      · subst h0; simpa [Addr.add] using this
      · simpa [Addr.add, h0] using this
    · rw [List.getElem?_eq_none (by rw [rowL_len, listOf_len]; omega)] at hj; cases hj

end Go.Proofs.Ytpcfbdnckmfelaa
