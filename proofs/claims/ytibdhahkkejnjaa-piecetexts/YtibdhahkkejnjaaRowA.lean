/- Laws of no program: copy between rows whose elements take several cells, as a step of a walk. -/
import Derived.WalkKit
import Derived.WalkLawsBesides
import Derived.Laws.CopyOwn
import Derived.Lib.AppendZerosOnto
import Derived.Lib.Overlaps
import Derived.Shelf.Spec.SlicesInsert
import Derived.Deep.RegionHeld3
namespace Go.Proofs.PlatenPiece
open Go Go.RowKit
set_option linter.unusedVariables false
variable {P : Program}

theorem hidden {p : Prop} (h : p) : Hid p := h

theorem run_copy_row_k (w : World) (dT sT ty elem : TypeId) (size : Nat) (g o dLen dCap : Nat) (a : Addr) (sLen sCap : Nat) (cur : Array Value) (t : TypeId) (cs : List Value)
    (hu : P.underlying dT = some (.slice elem)) (hs : (P.info? elem).map (·.size) = some size)
    (hg : w.heap[g]? = some (.cells cur t (0, 0))) (hn : cs.length = Nat.min sLen dLen * size)
    (hsrc : ∀ j v, cs[j]? = some v → w.cell? (a.add j) = some v) (hfit : o + cs.length ≤ cur.size) (h1 : ∀ v ∈ cs, v.oneCell' = true) :
    (Builtin.copy_ #[dT, sT] ty #[.slice (some ⟨g, o, none⟩) dLen dCap, .slice (some a) sLen sCap]).run P w =
      .ok (goInt (Nat.min sLen dLen)) (w.setRow g (cur.toList.take o ++ cs ++ cur.toList.drop (o + cs.length)).toArray) := by
  have hl := run_loadCells_list (P := P) w a cs hsrc
  have hst := run_storeCells_at P g o t cs 0 cur w hg (by simpa using hfit) h1
  cases hq : P.info? elem with
  | none => simp [hq] at hs
  | some i =>
    have hi : i.size = size := by simpa [hq] using hs
    simp [Builtin.copy_, run_underlying hu, Builtin.lenOf, Builtin.firstCells, sizeOf, typeInfo, hq, hi, ← hn, hl, hst]

theorem run_copy_none_k (w : World) (dT sT ty elem : TypeId) (d a : Option Addr) (dLen dCap sLen sCap : Nat) (hu : P.underlying dT = some (.slice elem)) (hs : ((P.info? elem).map (·.size)).isSome = true) (hn : Nat.min sLen dLen = 0) :
    (Builtin.copy_ #[dT, sT] ty #[.slice d dLen dCap, .slice a sLen sCap]).run P w = .ok (goInt 0) w := by
  cases hq : P.info? elem with
  | none => simp [hq] at hs
  | some i =>
    have hl : ∀ (x : Addr), (loadCells x 0).run P w = .ok #[] w := fun x => by simpa using run_loadCells_list (P := P) w x [] (by simp)
    cases d <;> cases a <;> simp [Builtin.copy_, run_underlying hu, Builtin.lenOf, Builtin.firstCells, sizeOf, typeInfo, hq, hn, storeCells, hl]

theorem grownBy_setRow (w : World) (g : Nat) (cs : Array Value) : w.grownBy (w.setRow g cs) (some g) :=
  ⟨rfl, rfl, rfl, by simp [World.setRow], fun k _ hk => setRow_other w g k cs (fun e => hk (by rw [e]))⟩

theorem grownBy_refl (w : World) (r : Option Nat) : w.grownBy w r := ⟨rfl, rfl, rfl, Nat.le_refl _, fun _ _ _ => rfl⟩

/-- What a copy does: the row, and that nothing else has turned. -/
theorem run_copy_any (w : World) (dT sT ty elem : TypeId) (size : Nat) (hu : P.underlying dT = some (.slice elem)) (hsz : (P.info? elem).map (·.size) = some size) (hs0 : 0 < size)
    (dp sp : Option Addr) (dLen dCap sLen sCap : Nat)
    (g off : Nat) (cur : List Value) (t : TypeId) (hg : w.heap[g]? = some (.cells cur.toArray t (0, 0))) (cs : List Value) (hn : cs.length = Nat.min sLen dLen * size)
    (hpos : 0 < cs.length → dp = some ⟨g, off, none⟩ ∧ ∃ ad, sp = some ad ∧ ∀ j v, cs[j]? = some v → w.cell? (ad.add j) = some v)
    (hfit : off + cs.length ≤ cur.length) (h1 : ∀ v ∈ cs, v.oneCell' = true) :
    ∃ w', (Builtin.copy_ #[dT, sT] ty #[.slice dp dLen dCap, .slice sp sLen sCap]).run P w = .ok (goInt (Nat.min sLen dLen)) w' ∧
      w'.heap[g]? = some (.cells (splice cur off cs).toArray t (0, 0)) ∧ w.grownBy w' (some g) := by
  by_cases h0 : cs.length = 0
  · obtain rfl : cs = [] := List.eq_nil_of_length_eq_zero h0
    have hm : Nat.min sLen dLen = 0 := by
      rcases Nat.eq_zero_or_pos (Nat.min sLen dLen) with h | h
      · exact h
      · have := Nat.mul_pos h hs0; simp at hn; omega
    refine ⟨w, ?_, by simpa [splice] using hg, grownBy_refl _ _⟩
    rw [hm]
    exact run_copy_none_k w dT sT ty elem dp sp dLen dCap sLen sCap hu (by rw [hsz]; rfl) hm
  · obtain ⟨rfl, ad, rfl, hsrc⟩ := hpos (by omega)
    refine ⟨_, run_copy_row_k w dT sT ty elem size g off dLen dCap ad sLen sCap cur.toArray t cs hu hsz hg hn hsrc (by simpa using hfit) h1, ?_, grownBy_setRow _ _ _⟩
    rw [setRow_heap w g cur.toArray _ t _ hg]
    simp [splice, List.append_assoc]

/-- .. as a step of a walk. -/
theorem wpList_copy_k (w : World) {ops : Array Oper} {rest : List Oper} {o : Oper} {a : Act} {Q : Exit → Act → World → Prop} (hgd : o.guard = none) (d s : Operand) (dT sT : TypeId)
    (ho : o.op = .call { callee := .builtin .copy, args := #[d, s], argTypes := #[dT, sT] }) (elem : TypeId) (size : Nat) (hu : P.underlying dT = some (.slice elem)) (hsz : (P.info? elem).map (·.size) = some size) (hs0 : 0 < size)
    (dp sp : Option Addr) (dLen dCap sLen sCap : Nat) (hd : a.eval d = .slice dp dLen dCap) (hs : a.eval s = .slice sp sLen sCap)
    (g off : Nat) (cur : List Value) (t : TypeId) (hg : w.heap[g]? = some (.cells cur.toArray t (0, 0))) (cs : List Value) (hn : cs.length = Nat.min sLen dLen * size)
    (hpos : 0 < cs.length → dp = some ⟨g, off, none⟩ ∧ ∃ ad, sp = some ad ∧ ∀ j v, cs[j]? = some v → w.cell? (ad.add j) = some v)
    (hfit : off + cs.length ≤ cur.length) (h1 : ∀ v ∈ cs, v.oneCell' = true)
    (h : ∀ w', Hid (w'.heap[g]? = some (.cells (splice cur off cs).toArray t (0, 0))) → Hid (w.grownBy w' (some g)) → wpList P ops Q rest (a.put o.dst (goInt (Nat.min sLen dLen))) w') :
    wpList P ops Q (o :: rest) a w := by
  obtain ⟨w', hr, h2, h3⟩ := run_copy_any (P := P) w dT sT o.type elem size hu hsz hs0 dp sp dLen dCap sLen sCap g off cur t hg cs hn hpos hfit h1
  exact wpList_copy_runI w hgd d s dT sT ho _ _ hd hs hr (h w' h2 h3)

/-- .. and as one step of a region that draws its order. -/
theorem step_copy_k {ops : Array Oper} {o : Oper} {a : Act} {w : World} {K : Act → World → Prop} {Q : Exit → Act → World → Prop} {E : Prop} (hgd : o.guard = none) (d s : Operand) (dT sT : TypeId)
    (ho : o.op = .call { callee := .builtin .copy, args := #[d, s], argTypes := #[dT, sT] }) (elem : TypeId) (size : Nat) (hu : P.underlying dT = some (.slice elem)) (hsz : (P.info? elem).map (·.size) = some size) (hs0 : 0 < size)
    (dp sp : Option Addr) (dLen dCap sLen sCap : Nat) (hd : a.eval d = .slice dp dLen dCap) (hs : a.eval s = .slice sp sLen sCap)
    (g off : Nat) (cur : List Value) (t : TypeId) (hg : w.heap[g]? = some (.cells cur.toArray t (0, 0))) (cs : List Value) (hn : cs.length = Nat.min sLen dLen * size)
    (hpos : 0 < cs.length → dp = some ⟨g, off, none⟩ ∧ ∃ ad, sp = some ad ∧ ∀ j v, cs[j]? = some v → w.cell? (ad.add j) = some v)
    (hfit : off + cs.length ≤ cur.length) (h1 : ∀ v ∈ cs, v.oneCell' = true)
    (h : ∀ w', Hid (w'.heap[g]? = some (.cells (splice cur off cs).toArray t (0, 0))) → Hid (w.grownBy w' (some g)) → K (a.put o.dst (goInt (Nat.min sLen dLen))) w') :
    if Region.wanted o (yielded ops a.tmps) = true then Oper.wp P o a w K Q else E := by
  obtain ⟨w', hr, h2, h3⟩ := run_copy_any (P := P) w dT sT o.type elem size hu hsz hs0 dp sp dLen dCap sLen sCap g off cur t hg cs hn hpos hfit h1
  exact step_copy_runI hgd d s dT sT ho _ _ hd hs hr (h w' h2 h3)

/-- 'append(s[:i], make(S, k)...)' where there is no room: a new row. -/
theorem run_grow_zeros (w : World) (t tn ty e : TypeId) (i : TypeInfo) (z : Value) (kq kn : IntKind) (size bytes : Nat) (ht : P.underlying t = some (.slice e)) (htn : P.underlying tn = some (.int kn)) (hi : P.info? e = some i) (hz : i.zero = some z) (hsz : i.size = size) (hby : i.bytes = bytes) (hzs : z.cells.size = size)
    (g : Nat) (c sLen : Nat) (olds : List Value) (hol : olds.length = sLen * size) (hold : ∀ j v, olds[j]? = some v → w.cell? ((⟨g, 0, none⟩ : Addr).add j) = some v)
    (k : Nat) (h0 : 0 < k) (hs : 0 < size) (hg : c < sLen + k) (hbig : (sLen + k) * bytes ≤ 140737488355328) (h63 : sLen + k ≤ 1000000000000) :
    ∃ (G : Nat) (row : List Value), (Builtin.append_ #[t, tn] ty #[.slice (some ⟨g, 0, none⟩) sLen c, .int kq k]).run P w = .ok (.slice (some ⟨w.heap.size, 0, none⟩) (sLen + k) G) (w.drew.alloc (.cells row.toArray e)) ∧
      sLen + k ≤ G ∧ G ≤ maxLen ∧ row.length = G * size ∧ row.take (sLen * size) = olds := by
  have hfc : (Builtin.firstCells i.size sLen (.slice (some ⟨g, 0, none⟩) sLen c)).run P w.drew = .ok olds.toArray w.drew := by
    rw [hsz]
    exact run_firstCells_some w.drew size sLen ⟨g, 0, none⟩ sLen c olds hol hold
  have h := Lib.run_append_grow_zeros w t tn ty e i z kq kn ht htn hi hz (some ⟨g, 0, none⟩) sLen c olds hfc k h0 (by omega) hg (by omega) (by
    rw [hby]
    have : k * bytes ≤ (sLen + k) * bytes := Nat.mul_le_mul_right _ (by omega)
    omega) (by rw [hby]; exact growslice_fits hg hbig)
  have hG := grownCap_ge w (sLen + k) c e
  have hGm := grownCap_le_maxLen w (sLen + k) c e (by unfold maxLen; omega)
  refine ⟨grownCap w (sLen + k) c e, _, by rw [h], hG, hGm, ?_, ?_⟩
  · have e1 : ∀ m, (Builtin.zeroCells z.cells m).size = m * size := by
      intro m; simp [Builtin.zeroCells, hzs]
    simp only [Array.length_toList, Array.size_append, e1, List.size_toArray, hol]
    rw [← Nat.add_mul, ← Nat.add_mul]
    congr 1
    omega
  · simp [hol.symm]

theorem grownBy_alloc_drew (w : World) (o : Obj) : w.grownBy (w.drew.alloc o) none :=
  ⟨rfl, rfl, rfl, by simp, fun k hk _ => Below.heap_alloc w.drew o k hk⟩

/-- .. as a step of a walk. -/
theorem wpList_grow_k (w : World) {ops : Array Oper} {rest : List Oper} {o : Oper} {a : Act} {Q : Exit → Act → World → Prop} (hgd : o.guard = none) (s x : Operand) (t tn : TypeId)
    (ho : o.op = .call { callee := .builtin .append, args := #[s, x], argTypes := #[t, tn] })
    (e : TypeId) (i : TypeInfo) (z : Value) (kq kn : IntKind) (size bytes : Nat) (ht : P.underlying t = some (.slice e)) (htn : P.underlying tn = some (.int kn)) (hi : P.info? e = some i) (hz : i.zero = some z) (hsz : i.size = size) (hby : i.bytes = bytes) (hzs : z.cells.size = size)
    (g : Nat) (c sLen : Nat) (olds : List Value) (hol : olds.length = sLen * size) (hold : ∀ j v, olds[j]? = some v → w.cell? ((⟨g, 0, none⟩ : Addr).add j) = some v)
    (k : Nat) (K : Int) (h0 : 0 < k) (hs0 : 0 < size) (hg : c < sLen + k) (hbig : (sLen + k) * bytes ≤ 140737488355328) (h63 : sLen + k ≤ 1000000000000)
    (hs : a.eval s = .slice (some ⟨g, 0, none⟩) sLen c) (hx : a.eval x = .int kq K) (hK : K = (k : Int))
    (h : ∀ (G : Nat) (row : List Value) (w' : World), sLen + k ≤ G → G ≤ maxLen → row.length = G * size → Hid (row.take (sLen * size) = olds) → Hid (w'.heap[w.heap.size]? = some (.cells row.toArray e (0, 0))) → Hid (w.grownBy w' none) → w.heap.size < w'.heap.size →
      wpList P ops Q rest (a.put o.dst (.slice (some ⟨w.heap.size, 0, none⟩) (sLen + k) G)) w') : wpList P ops Q (o :: rest) a w := by
  subst hK
  obtain ⟨G, row, hr, h1, h2, h3, h4⟩ := run_grow_zeros (P := P) w t tn o.type e i z kq kn size bytes ht htn hi hz hsz hby hzs g c sLen olds hol hold k h0 hs0 hg hbig h63
  refine Lib.wpList_append_run w hgd s x t tn ho _ _ hs hx _ _ hr (h G row _ h1 h2 h3 h4 ?_ (grownBy_alloc_drew _ _) (by simp))
  show (w.heap.push _)[w.heap.size]? = _
  simp
end Go.Proofs.PlatenPiece
