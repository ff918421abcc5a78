/- Reading a text as JSON or as an S-expression: the program's and the document's. -/
import Derived.Test.YtfakfgmengcndaaKD
import Derived.Test.YtfakfgmengcndaaKF
import Derived.Test.YtfakfgmengcndaaKG
import Derived.Test.YtfakfgmengcndaaKJ
import Derived.OwnWalk
namespace Go.Proofs.PlatenTree
open Go Go.RowKit Go.Shelf
open Go.Proofs.PlatenLayout (str str_size)
set_option linter.unusedVariables false
set_option maxRecDepth 100000

theorem hidden {p : Prop} (h : p) : Hid p := h
theorem stop {p : Prop} (h : Hid p) : p := h.out
/-- A slice of bytes. -/
def RowL (w : World) (v : Value) (p : List Nat) : Prop := PlatenJson.Row w v p.length (fun j => p.getD j 0)
abbrev IsTk := PlatenJson.IsTk
abbrev RdP := PlatenJson.RdP
theorem RowL.below {w w' : World} {v : Value} {p : List Nat} (h : RowL w v p) (hb : Below w.heap.size w w') : RowL w' v p := PlatenJson.Row.below h hb
theorem getD_lt {p : List Nat} (hp : ∀ c ∈ p, c < 256) (j : Nat) : p.getD j 0 < 256 := by
  rw [List.getD_eq_getElem?_getD]
  cases hj : p[j]? with
  | none => decide
  | some c => exact hp c (List.mem_of_getElem? hj)
theorem RowL.val {w : World} {v : Value} {p : List Nat} (h : RowL w v p) : ∃ a cap, v = .slice a p.length cap := by
  obtain ⟨a, cap, rfl, _⟩ := h
  exact ⟨_, _, rfl⟩
theorem tread_any (s : Bool) {v : Value} {p : List Nat} {w : World} (hp : ∀ c ∈ p, c < 256) (hn : p.length ≤ 100000) (h : RowL w v p) :
    Calls Try.prog 11 #[v, .bool s] w (RdP w (ansL s p)) := by
  cases s with
  | true =>
    have cs : Calls Try.prog 22 #[v] w (RdP w (ansL true p)) := PlatenSexp.read_any v p.length _ w (getD_lt hp) hn h
    clear h
    generalize ansL true p = o at *
    go_enter Try.func11, Try.ntmps11
    go_wp2_with fail
    refine cs.mono ?_
    clear cs
    rintro e w' ⟨tv, rfl, ht, hb⟩
    go_wp2_with fail
    go_ret3
    exact ⟨tv, rfl, ht, hb⟩
  | false =>
    have cs : Calls Try.prog 23 #[v] w (RdP w (ansL false p)) := PlatenJson.read_any v p.length _ w (getD_lt hp) hn h
    clear h
    generalize ansL false p = o at *
    go_enter Try.func11, Try.ntmps11
    go_wp2_with fail
    refine cs.mono ?_
    clear cs
    rintro e w' ⟨tv, rfl, ht, hb⟩
    go_wp2_with fail
    go_ret3
    exact ⟨tv, rfl, ht, hb⟩
theorem rtread_any (s : Bool) {v : Value} {p : List Nat} {w : World} (hp : ∀ c ∈ p, c < 256) (hn : p.length ≤ 100000) (h : RowL w v p) :
    Calls Try.prog 12 #[v, .bool s] w (RdP w (ansL s p)) := by
  cases s with
  | true =>
    have cs : Calls Try.prog 24 #[v] w (RdP w (ansL true p)) := PlatenSexp.rread_any v p.length _ w (getD_lt hp) hn h
    clear h
    generalize ansL true p = o at *
    go_enter Try.func12, Try.ntmps12
    go_wp2_with fail
    refine cs.mono ?_
    clear cs
    rintro e w' ⟨tv, rfl, ht, hb⟩
    go_wp2_with fail
    go_ret3
    exact ⟨tv, rfl, ht, hb⟩
  | false =>
    have cs : Calls Try.prog 25 #[v] w (RdP w (ansL false p)) := PlatenJson.rread_any v p.length _ w (getD_lt hp) hn h
    clear h
    generalize ansL false p = o at *
    go_enter Try.func12, Try.ntmps12
    go_wp2_with fail
    refine cs.mono ?_
    clear cs
    rintro e w' ⟨tv, rfl, ht, hb⟩
    go_wp2_with fail
    go_ret3
    exact ⟨tv, rfl, ht, hb⟩
/-- string(p). -/
theorem conv_str {w : World} {v : Value} {p : List Nat} (h : RowL w v p) (hp : ∀ c ∈ p, c < 256) : (convert 22 9 v).run Try.prog w = .ok (.string (str p)) w := by
  obtain ⟨a, cap, rfl, h⟩ := h
  cases a with
  | none =>
    by_cases h0 : 0 < p.length
    · obtain ⟨b, off, e, _⟩ := h h0; cases e
    · obtain rfl := List.eq_nil_of_length_eq_zero (by omega : p.length = 0)
      exact run_convert_bytes_nil (P := Try.prog) w 22 5 Try.underlying22 Try.underlying5 _ _ 9 Try.underlying9
  | some x =>
    have := run_convert_bytes_back (P := Try.prog) w 22 9 5 x cap (p.map UInt8.ofNat) Try.underlying22 Try.underlying5 Try.underlying9 (fun j hj => by
      have hj' : j < p.length := by simpa using hj
      obtain ⟨b, off, e, hc, hr⟩ := h (by omega)
      injection e with e
      subst e
      have h1 := hr j hj'
      have h2 := hp _ (List.getElem_mem hj')
      rw [Addr.add_lit, h1]
      show some (Value.int IntKind.u8 ((p.getD j 0 : Nat) : Int)) = _
      rw [List.getD_eq_getElem?_getD, List.getElem?_eq_getElem hj']
      simp
      omega)
    rw [List.length_map] at this
    exact this
end Go.Proofs.PlatenTree

/- What stands between two tokens: the program's gaps; a token's text. -/
namespace Go.Proofs.PlatenTree
open Go Go.RowKit Go.Shelf
open Go.Proofs.PlatenLayout (str str_size itC rowI It)
set_option linter.unusedVariables false
set_option maxRecDepth 100000

/-- A slice of items in blocks from a world on: none, or a whole block. -/
def Gap (w : World) (u : Value) (l : List It) : Prop := (u = .slice none 0 0 ∧ l = []) ∨ (∃ g, u = .slice (some ⟨g, 0, none⟩) l.length l.length ∧ l ≠ [] ∧ ∀ j x, (rowI l)[j]? = some x → w.cell? ⟨g, j, none⟩ = some x)
theorem gap_new {w : World} {l : List It} {cs : Array Value} (h : cs = (rowI l).toArray) (hl : l ≠ []) {n : Nat} (hn : n = l.length) : Gap (w.alloc (.cells cs 54)) (.slice (some ⟨w.heap.size, 0, none⟩) n n) l := by
  refine Or.inr ⟨_, by rw [hn], hl, fun j x hj => ?_⟩
  have := PlatenLayout.cells_new w 54 (rowI l) j x hj
  rw [Addr.add_lit, Nat.zero_add] at this
  rw [h]
  exact this
theorem jgap_any (a b : Nat) (w : World) (ha : a < 256) (hb : b < 256) : Calls Try.prog 26 #[.int .u8 (a : Nat), .int .u8 (b : Nat)] w fun e w' => ∃ u, e = .returned u ∧ Gap w' u (gapI false a b) ∧ Below w.heap.size w w' := by
  unfold gapI
  rw [if_neg (by simp)]
  by_cases a1 : a = 1
  · have z1 : ((a : Int) == 1) = true := by simp [a1]
    by_cases b2 : b = 2
    · have z2 : ((b : Int) == 2) = true := by simp [b2]
      rw [if_pos ⟨a1, b2⟩]
      clear a1 b2
      go_enter Try.func26, Try.ntmps26
      go_wp2_with fail
      go_ret
      exact ⟨_, rfl, Or.inl ⟨rfl, rfl⟩, Below.refl _ _⟩
    · have z2 : ((b : Int) == 2) = false := by simp; omega
      rw [if_neg (fun q => b2 q.2), if_pos a1]
      clear a1 b2
      go_enter Try.func26, Try.ntmps26
      go_wp2_with fail
      go_ret
      exact ⟨_, rfl, gap_new rfl (by simp) rfl, (Below.refl _ _).alloc (Nat.le_refl _) _⟩
  · have z1 : ((a : Int) == 1) = false := by simp; omega
    rw [if_neg (fun q => a1 q.1), if_neg a1]
    by_cases b2 : b = 2
    · have z2 : ((b : Int) == 2) = true := by simp [b2]
      rw [if_pos b2]
      clear a1 b2
      go_enter Try.func26, Try.ntmps26
      go_wp2_with fail
      go_ret
      exact ⟨_, rfl, gap_new rfl (by simp) rfl, (Below.refl _ _).alloc (Nat.le_refl _) _⟩
    · have z2 : ((b : Int) == 2) = false := by simp; omega
      rw [if_neg b2]
      by_cases a3 : a = 3
      · have z3 : ((a : Int) == 3) = true := by simp [a3]
        rw [if_pos a3]
        clear a1 b2 a3
        go_enter Try.func26, Try.ntmps26
        go_wp2_with fail
        go_ret
        exact ⟨_, rfl, gap_new rfl (by simp) rfl, (Below.refl _ _).alloc (Nat.le_refl _) _⟩
      · have z3 : ((a : Int) == 3) = false := by simp; omega
        rw [if_neg a3]
        clear a1 b2 a3
        go_enter Try.func26, Try.ntmps26
        go_wp2_with fail
        go_ret
        exact ⟨_, rfl, Or.inl ⟨rfl, rfl⟩, Below.refl _ _⟩
theorem sgap_any (a b : Nat) (w : World) (ha : a < 256) (hb : b < 256) : Calls Try.prog 27 #[.int .u8 (a : Nat), .int .u8 (b : Nat)] w fun e w' => ∃ u, e = .returned u ∧ Gap w' u (gapI true a b) ∧ Below w.heap.size w w' := by
  unfold gapI
  rw [if_pos rfl]
  by_cases a6 : a = 6
  · have z6 : ((a : Int) == 6) = true := by simp [a6]
    rw [if_pos (Or.inl a6)]
    clear a6
    go_enter Try.func27, Try.ntmps27
    go_wp2_with fail
    go_ret
    exact ⟨_, rfl, Or.inl ⟨rfl, rfl⟩, Below.refl _ _⟩
  have z6 : ((a : Int) == 6) = false := by simp; omega
  by_cases b2 : b = 2
  · have z2 : ((b : Int) == 2) = true := by simp [b2]
    rw [if_pos (Or.inr b2)]
    clear a6 b2
    go_enter Try.func27, Try.ntmps27
    go_wp2_with fail
    go_ret
    exact ⟨_, rfl, Or.inl ⟨rfl, rfl⟩, Below.refl _ _⟩
  have z2 : ((b : Int) == 2) = false := by simp; omega
  rw [if_neg (fun q => q.elim a6 b2)]
  by_cases a1 : a = 1
  · have z1 : ((a : Int) == 1) = true := by simp [a1]
    rw [if_pos a1]
    clear a6 b2 a1
    go_enter Try.func27, Try.ntmps27
    go_wp2_with fail
    go_ret
    exact ⟨_, rfl, gap_new rfl (by simp) rfl, (Below.refl _ _).alloc (Nat.le_refl _) _⟩
  · have z1 : ((a : Int) == 1) = false := by simp; omega
    rw [if_neg a1]
    clear a6 b2 a1
    go_enter Try.func27, Try.ntmps27
    go_wp2_with fail
    go_ret
    exact ⟨_, rfl, gap_new rfl (by simp) rfl, (Below.refl _ _).alloc (Nat.le_refl _) _⟩
/-- Bytes of a text. -/
theorem str_ext (p : List Nat) (a m : Nat) (h : a + m ≤ p.length) : (str p).extract a (a + m) = str (sl p a m) := by
  unfold str sl
  have e : ∀ (x : Array UInt8) (i j : Nat), (ByteArray.mk x).extract i j = ⟨x.extract i j⟩ := fun x i j => by
    rw [ByteArray.ext_iff]; simp
  rw [e]
  simp [List.map_take, List.map_drop]
theorem word_any (p : List Nat) (t : Tk) (w : World) (hk : t.1 < 256) (hn : p.length ≤ 100000) (h : t.2.1 + t.2.2 ≤ p.length) :
    Calls Try.prog 28 #[.string (str p), .agg #[.int .u8 (t.1 : Nat), .int .i64 (t.2.1 : Nat), .int .i64 (t.2.2 : Nat)]] w fun e w' => e = .returned (.string (str (if t.1 = 4 then [58, 32] else sl p t.2.1 t.2.2))) ∧ Below w.heap.size w w' := by
  obtain ⟨k, a, m⟩ := t
  simp only at hk h ⊢
  have hs := str_size p
  have hB : Hid (Below w.heap.size w (w.alloc (Obj.cells #[Value.int IntKind.u8 (k : Nat), Value.int IntKind.i64 (a : Nat), Value.int IntKind.i64 (m : Nat)] 47))) := (Below.refl _ _).alloc (Nat.le_refl _) _
  by_cases k4 : k = 4
  · have z4 : ((k : Int) == 4) = true := by simp [k4]
    rw [if_pos k4]
    clear k4
    go_enter Try.func28, Try.ntmps28
    go_wp2_with fail
    go_ret
    exact ⟨rfl, hB.out⟩
  · have z4 : ((k : Int) == 4) = false := by simp; omega
    have hx := str_ext p a m h
    have hse := fun W => run_slice_string (P := Try.prog) W 9 (str p) .i64 .i64 (a : Int) ((a : Int) + (m : Int)) Try.underlying9 (by omega) (by omega) (by omega)
    have e1 : ((a : Int)).toNat = a := by omega
    have e2 : ((a : Int) + (m : Int)).toNat = a + m := by omega
    rw [e1, e2, hx] at hse
    rw [if_neg k4]
    generalize str (sl p a m) = S at *
    generalize str p = X at *
    clear k4 hx
    go_enter Try.func28, Try.ntmps28
    go_wp2_with fail
    go_ret
    exact ⟨rfl, hB.out⟩
theorem sl_len {p : List Nat} {a m : Nat} (h : a + m ≤ p.length) : (sl p a m).length = m := by
  unfold sl
  rw [List.length_take, List.length_drop]
  omega
theorem sl_get {p : List Nat} {a m j : Nat} (hj : j < m) : (sl p a m).getD j 0 = p.getD (a + j) 0 := by
  unfold sl
  rw [List.getD_eq_getElem?_getD, List.getD_eq_getElem?_getD, List.getElem?_take_of_lt hj, List.getElem?_drop]
theorem sl_lt {p : List Nat} (hp : ∀ c ∈ p, c < 256) (a m : Nat) : ∀ c ∈ sl p a m, c < 256 := fun c hc => hp c (List.mem_of_mem_drop (List.mem_of_mem_take hc))
/-- Bytes within a slice. -/
theorem RowL.sub {w : World} {b off cap : Nat} {p : List Nat} {a m : Nat} (hm : 1 ≤ m) (h : a + m ≤ p.length) (hr : RowL w (.slice (some ⟨b, off, none⟩) p.length cap) p) : RowL w (.slice (some ⟨b, off + a, none⟩) m (cap - a)) (sl p a m) := by
  obtain ⟨a', cap', e, hr⟩ := hr
  injection e with e1 e2 e3
  subst e1 e3
  obtain ⟨b', off', e4, hc, hr⟩ := hr (by omega)
  injection e4 with e4
  injection e4 with e5 e6
  subst e5 e6
  refine ⟨_, _, by rw [sl_len h], fun _ => ⟨b, off + a, rfl, by rw [sl_len h]; omega, fun j hj => ?_⟩⟩
  rw [sl_len h] at hj
  have := hr (a + j) (by omega)
  show w.cell? ⟨b, off + a + j, none⟩ = some (.int .u8 ((sl p a m).getD j 0 : Nat))
  rw [sl_get hj, Nat.add_assoc]
  exact this
/-- A token as an item, the document's. -/
theorem say_any (p : List Nat) (t : Tk) (mb : ByteArray) (ml : List Nat) (hml : mb = str ml) {v : Value} (w : World) (hp : ∀ c ∈ p, c < 256) (hk : t.1 < 256) (hn : p.length ≤ 100000) (h1 : 1 ≤ t.2.2) (h : t.2.1 + t.2.2 ≤ p.length) (hr : RowL w v p) (hm9 : ml.length ≤ 1000) :
    Calls Try.prog 29 #[v, .agg #[.int .u8 (t.1 : Nat), .int .i64 (t.2.1 : Nat), .int .i64 (t.2.2 : Nat)], .string mb] w fun e w' => e = .returned (.agg #[.int .u8 1, .string (str (sl p t.2.1 t.2.2 ++ ml)), .int .i64 0, .int .i64 0, .bool false, .bool false]) ∧ Below w.heap.size w w' := by
  obtain ⟨k, a, m⟩ := t
  simp only at hk h1 h ⊢
  subst hml
  have hB : Hid (Below w.heap.size w (w.alloc (Obj.cells #[Value.int IntKind.u8 (k : Nat), Value.int IntKind.i64 (a : Nat), Value.int IntKind.i64 (m : Nat)] 47))) := (Below.refl _ _).alloc (Nat.le_refl _) _
  obtain ⟨ad, cap, rfl, hr0⟩ := id hr
  obtain ⟨b, off, rfl, hc, _⟩ := hr0 (by omega)
  clear hr0
  have hsub := hr.sub h1 h
  have hcv : ∀ W, RowL W (.slice (some ⟨b, off + a, none⟩) m (cap - a)) (sl p a m) → (convert 22 9 (.slice (some ⟨b, off + a, none⟩) m (cap - a))).run Try.prog W = .ok (.string (str (sl p a m))) W := fun W hW => conv_str hW (sl_lt hp a m)
  have hca : ¬ cap = a := by omega
  have hsz : ¬ 9223372036854775807 < (str (sl p a m)).size + (str ml).size := by rw [str_size, str_size, sl_len h]; omega
  obtain ⟨n, hnn⟩ : ∃ n, p.length = n := ⟨_, rfl⟩
  rw [hnn] at hn hc h ⊢
  have hcv2 : ∀ o1 o2, (convert 22 9 (.slice (some ⟨b, off + a, none⟩) m (cap - a))).run Try.prog ((w.alloc o1).alloc o2) = .ok (.string (str (sl p a m))) ((w.alloc o1).alloc o2) := fun o1 o2 => hcv _ (hsub.below (((Below.refl _ _).alloc (Nat.le_refl _) _).alloc (by simp) _))
  have happ : ∀ l, str l ++ str ml = str (l ++ ml) := fun l => by
    unfold str
    apply ByteArray.ext
    simp
  have hb2 : ∀ o1 o2, Below w.heap.size w ((w.alloc o1).alloc o2) := fun o1 o2 => ((Below.refl _ _).alloc (Nat.le_refl _) _).alloc (by simp) _
  clear hr hsub hnn hp hcv
  go_enter Try.func29, Try.ntmps29
  go_wp2_with fail
  all_goals refine bodyPost_ret (v := .agg #[.int .u8 1, .string (str (sl p a m ++ ml)), .int .i64 0, .int .i64 0, .bool false, .bool false]) (by simp [results, Try.results29, go_sem]) rfl ?_
  all_goals exact ⟨rfl, hb2 _ _⟩
end Go.Proofs.PlatenTree

/- tree.Items: what is laid out of a tree, item by item. -/
namespace Go.Proofs.PlatenTree
open Go Go.RowKit Go.Shelf
open Go.Proofs.PlatenLayout (str str_size itC rowI rowI_app rowI_one rowI_len It IsItems isItems_of OkL OkIt row_slice wpList_append_at wpList_append_at)
set_option linter.unusedVariables false
set_option maxRecDepth 100000

/-- How many signs a text has. -/
def chn (x : List Nat) : Nat := PlatenGlyph.cnt (fun j => x.getD j 0) x.length
theorem itmP_snoc (ch : List Nat → Nat) (s : Bool) (t : Pc) : ∀ (P : List Pc) (a : Nat), itmP ch s a (P ++ [t]) = itmP ch s a P ++ (gapI s (lastD a P) t.1 ++ (itx ch t :: shutI (lastD a P) t.1))
  | [], a => by
    show gapI s a t.1 ++ (itx ch t :: (shutI a t.1 ++ [])) = _
    rw [List.append_nil]; rfl
  | x :: r, a => by
    show gapI s a x.1 ++ (itx ch x :: (shutI a x.1 ++ itmP ch s x.1 (r ++ [t]))) = _
    rw [itmP_snoc ch s t r x.1]
    show _ = (gapI s a x.1 ++ (itx ch x :: (shutI a x.1 ++ itmP ch s x.1 r))) ++ _
    simp [lastD]
/-- The items of the first tokens. -/
def itQ (s : Bool) (P : List Pc) (q : Nat) : List It := itmP chn s 6 (P.take q)
def laQ (P : List Pc) (q : Nat) : Nat := lastD 6 (P.take q)
theorem itQ_succ {s : Bool} {P : List Pc} {q : Nat} {t : Pc} (h : P[q]? = some t) : itQ s P (q + 1) = itQ s P q ++ (gapI s (laQ P q) t.1 ++ (itx chn t :: shutI (laQ P q) t.1)) ∧ laQ P (q + 1) = t.1 := by
  unfold itQ laQ
  rw [List.take_add_one, h]
  exact ⟨itmP_snoc chn s t _ 6, lastD_app [t] (P.take q) 6⟩
theorem itQ_len (s : Bool) (P : List Pc) (q : Nat) : (itQ s P q).length ≤ 4 * q := by
  induction q with
  | zero => unfold itQ; simp [itmP]
  | succ q ih =>
    cases h : P[q]? with
    | none =>
      have : itQ s P (q + 1) = itQ s P q := by unfold itQ; rw [List.take_add_one, h]; simp
      rw [this]; omega
    | some t =>
      rw [(itQ_succ h).1, List.length_append, List.length_append, List.length_cons]
      have h1 : (gapI s (laQ P q) t.1).length ≤ 2 := by unfold gapI; (repeat' split) <;> simp
      have h2 : (shutI (laQ P q) t.1).length ≤ 1 := by unfold shutI; split <;> simp
      omega
theorem laQ_lt {P : List Pc} (h : ∀ t ∈ P, t.1 < 256) (q : Nat) : laQ P q < 256 := by
  unfold laQ
  have key : ∀ (L : List Pc) (a : Nat), a < 256 → (∀ t ∈ L, t.1 < 256) → lastD a L < 256 := by
    intro L
    induction L with
    | nil => exact fun a h _ => h
    | cons x r ih => exact fun a _ hl => ih x.1 (hl x (by simp)) (fun t ht => hl t (by simp [ht]))
  exact key _ 6 (by decide) (fun t ht => h t (List.mem_of_mem_take ht))
theorem info54 : (Try.prog.info? 54).map (fun i => (i.zero, i.size, i.bytes)) = some (some (.agg #[.int .u8 0, .string ByteArray.empty, .int .i64 0, .int .i64 0, .bool false, .bool false]), 6, 48) := by kernel_rfl
theorem itC_one (x : It) : ∀ u ∈ itC x, u.oneCell' = true := by
  intro u hu
  simp only [itC, List.mem_cons, List.not_mem_nil, or_false] at hu
  rcases hu with rfl | rfl | rfl | rfl | rfl | rfl <;> rfl
theorem rowI_ones (l : List It) : ∀ u ∈ rowI l, u.oneCell' = true := by
  intro u hu
  obtain ⟨x, _, h⟩ := List.mem_flatMap.1 hu
  exact itC_one x u h
/-- append(row, gap...), the gap nil or not. -/
theorem append_gap {ops : Array Oper} {rest : List Oper} {o : Oper} {a : Act} {Q : Exit → Act → World → Prop} {w : World} (hgd : o.guard = none) (s x : Operand)
    (ho : o.op = .call { callee := .builtin .append, args := #[s, x], argTypes := #[31, 31] }) (base : Nat) (v : Value) (l : List It) (hown : w.ownsRow base 54 6 v l.length (rowI l)) (hs : a.eval s = v)
    (gv : Value) (g : List It) (hg : Gap w gv g) (hx : a.eval x = gv) (hl : l.length ≤ 1000000) (hgl : g.length ≤ 10) (hbase : base ≤ w.heap.size)
    (h : ∀ v' w', Hid (w'.ownsRow base 54 6 v' (l ++ g).length (rowI (l ++ g))) → Hid (w.grownBy w' v.ownBlock) → wpList Try.prog ops Q rest (a.put o.dst v') w') : wpList Try.prog ops Q (o :: rest) a w := by
  obtain ⟨i54, hi54, hz54, hy54, hb54⟩ := info_parts info54
  rcases hg with ⟨rfl, rfl⟩ | ⟨gb, rfl, hne, hc⟩
  · refine wpList_append_own_none hgd s x 31 ho base 54 i54 6 Try.underlying31 hi54 v l.length (rowI l) hs hown hx (h v w ?_ (World.grownBy.refl _ _))
    rw [List.append_nil]; exact hown
  · have hlen : g.length ≠ 0 := fun q => hne (List.eq_nil_of_length_eq_zero q)
    refine wpList_append_own w hgd s x 31 ho base 54 i54 (.agg #[.int .u8 0, .string ByteArray.empty, .int .i64 0, .int .i64 0, .bool false, .bool false]) 6 48 Try.underlying31 hi54 hz54 hy54 hb54 rfl (by decide) v l.length (rowI l) hs hown ⟨gb, 0, none⟩ g.length g.length (rowI g) hx (rowI_len g) (fun j u hj => ?_) (rowI_ones g) (by unfold maxLen; omega) (by omega) hbase fun v' w' h1 h2 _ => h v' w' ?_ h2
    · rw [Addr.add_lit, Nat.zero_add]; exact hc j u hj
    · show w'.ownsRow base 54 6 v' (l ++ g).length (rowI (l ++ g))
      rw [List.length_append, rowI_app]; exact h1
theorem gap_of_new {w : World} {x : It} {cs : Array Value} (h : cs = (itC x).toArray) : Gap (w.alloc (.cells cs 54)) (.slice (some ⟨w.heap.size, 0, none⟩) 1 1) [x] := gap_new (by rw [h, rowI_one]) (by simp) rfl
theorem colon_tx {p : List Nat} {k a m : Nat} (h : (pcs p (k, a, m)).1 = 4 → (pcs p (k, a, m)).2 = [58]) : (if k = 4 then [58, 32] else sl p a m) = (itx chn (pcs p (k, a, m))).tx := by
  show _ = sl p a m ++ tb (k, sl p a m)
  unfold tb
  by_cases q : k = 4
  · have : sl p a m = [58] := h q
    rw [if_pos q, if_pos q, this]; rfl
  · rw [if_neg q, if_neg q, List.append_nil]
/-- A round's world: the items so far in a row of one's own, the token at hand in a box. -/
structure RW (w1 w : World) (u : Value) (L : List It) (bx k a m : Nat) : Prop where
  own : w.ownsRow w1.heap.size 54 6 u L.length (rowI L)
  bel : Below w1.heap.size w1 w
  box : w.heap[bx]? = some (.cells #[.int .u8 (k : Nat), .int .i64 (a : Nat), .int .i64 (m : Nat)] 47 (0, 0))
  new : w1.heap.size ≤ bx
section
variable {w1 w w' : World} {u : Value} {L : List It} {bx k a m : Nat}
theorem RW.grown (h : RW w1 w u L bx k a m) (hg : w.grownBy w' none) : RW w1 w' u L bx k a m where
  own := PlatenLayout.row_same h.own (fun j hj => hg.block j (h.own.lt j hj).2 (by simp))
  bel := h.bel.grown hg h.bel.size (by simp)
  box := (hg.block bx (Array.getElem?_eq_some_iff.1 h.box).1 (by simp)).trans h.box
  new := h.new
theorem RW.below (h : RW w1 w u L bx k a m) (hb : Below w.heap.size w w') : RW w1 w' u L bx k a m := h.grown (PlatenLayout.grown_below hb)
theorem RW.alloc (h : RW w1 w u L bx k a m) (o : Obj) : RW w1 (w.alloc o) u L bx k a m := h.grown (PlatenLayout.grownBy_alloc w o)
theorem RW.app (h : RW w1 w u L bx k a m) {v' : Value} {L' : List It} (ho : w'.ownsRow w1.heap.size 54 6 v' L'.length (rowI L')) (hg : w.grownBy w' u.ownBlock) : RW w1 w' v' L' bx k a m where
  own := ho
  bel := h.bel.grown hg h.bel.size (fun j hj => (h.own.lt j hj).1)
  box := (hg.block bx (Array.getElem?_eq_some_iff.1 h.box).1 (fun e => PlatenLayout.row_head h.own h.box (by decide) e.symm)).trans h.box
  new := h.new
theorem RW.c (h : RW w1 w u L bx k a m) : w.cell? ⟨bx, 0, none⟩ = some (.int .u8 (k : Nat)) ∧ w.cell? ⟨bx, 1, none⟩ = some (.int .i64 (a : Nat)) ∧ w.cell? ⟨bx, 2, none⟩ = some (.int .i64 (m : Nat)) := by
  have hb := h.box
  refine ⟨?_, ?_, ?_⟩ <;> (unfold World.cell?; rw [hb]; rfl)
theorem app_rw {ops : Array Oper} {rest : List Oper} {o : Oper} {ac : Act} {Q : Exit → Act → World → Prop} (hgd : o.guard = none) (s x : Operand)
    (ho : o.op = .call { callee := .builtin .append, args := #[s, x], argTypes := #[31, 31] }) (H : RW w1 w u L bx k a m) (hs : ac.eval s = u) (gv : Value) (g : List It) (hg : Gap w gv g) (hx : ac.eval x = gv) (hl : L.length ≤ 1000000) (hgl : g.length ≤ 10)
    (h : ∀ v' w', Hid (RW w1 w' v' (L ++ g) bx k a m) → wpList Try.prog ops Q rest (ac.put o.dst v') w') : wpList Try.prog ops Q (o :: rest) ac w :=
  append_gap hgd s x ho w1.heap.size u L H.own hs gv g hg hx hl hgl H.bel.size (fun v' w' h1 h2 => h v' w' (H.app h1.out h2.out))
end
theorem gapI_len (s : Bool) (a b : Nat) : (gapI s a b).length ≤ 10 := by unfold gapI; (repeat' split) <;> simp
/-- What Items answers. -/
def ItRes (s : Bool) (p : List Nat) (w : World) (e : Ending) (w' : World) : Prop :=
  match rd s p with
  | none => e = .returned (.tuple #[.slice none 0 0, .int .i64 ((ansL s p).2.1 : Nat), .int .i64 ((ansL s p).2.2 : Nat)])
  | some P => ∃ u, e = .returned (.tuple #[u, .int .i64 0, .int .i64 0]) ∧ IsItems w' u (itms chn s 0 P)
theorem tk_at {w : World} {tv : Value} {T : List Tk} (h : IsTk w tv T) {q : Nat} {t : Tk} (hq : T[q]? = some t) : ∃ g cap, tv = .slice (some ⟨g, 0, none⟩) T.length cap ∧ T.length ≤ cap ∧ w.cell? ⟨g, q * 3, none⟩ = some (.int .u8 (t.1 : Nat)) ∧ w.cell? ⟨g, q * 3 + 1, none⟩ = some (.int .i64 (t.2.1 : Nat)) ∧ w.cell? ⟨g, q * 3 + 2, none⟩ = some (.int .i64 (t.2.2 : Nat)) := by
  obtain ⟨a, cap, rfl, h⟩ := h
  have hi := (List.getElem?_eq_some_iff.1 hq).1
  obtain ⟨g, rfl, hc, hr⟩ := h (by omega)
  have := hr q hi
  have e : T.getD q (0, 0, 0) = t := by rw [List.getD_eq_getElem?_getD, hq]; rfl
  rw [e] at this
  exact ⟨g, cap, rfl, hc, this⟩

set_option maxHeartbeats 4000000 in
theorem items_false {v : Value} {p : List Nat} {w : World} (hp : ∀ c ∈ p, c < 256) (hn : p.length ≤ 69000) (h : RowL w v p) :
    Calls Try.prog 14 #[v, .bool false] w fun e w' => ItRes false p w e w' ∧ Below w.heap.size w w' := by
  have cs := tread_any false hp (by omega) h
  unfold ItRes
  cases hrd : rd false p with
  | none =>
    have hne := ansL_no hrd
    generalize ansL false p = o at *
    obtain ⟨T, at', er⟩ := o
    simp only at hne
    have z0 : ((er : Int) != 0) = true := by simp; omega
    clear h hrd hne
    go_enter Try.func14, Try.ntmps14
    go_wp2_with fail
    refine cs.mono ?_
    clear cs
    rintro e w' ⟨tv, rfl, ht, hb⟩
    go_wp2_with fail
    go_ret3
    exact ⟨rfl, hb⟩
  | some P =>
    obtain ⟨T, eT, hP, hbd⟩ := ansL_ok hrd
    have hne := rd_ne hrd
    have hck := (rd_ck hrd).1
    have hk6 : ∀ t ∈ P, t.1 < 256 := by
      have key : ∀ (L : List Pc) (a : Nat), Ck (okB false) a L → ∀ t ∈ L, t.1 < 256 := by
        intro L
        induction L with
        | nil => intro a _ t ht; cases ht
        | cons x r ih =>
          intro a hc t ht
          rcases List.mem_cons.1 ht with rfl | ht
          · have := hc.1.1; omega
          · exact ih x.1 hc.2 t ht
      exact key P 0 hck
    have hit := itmP_itms chn hrd
    have hTl : T.length ≤ 69000 := by
      have h1 : T.length = P.length := by rw [← hP, List.length_map]
      have h2 := len_totb P hne
      have h3 : P.length ≤ p.length := by
        exact read_cn jm_ok (c := j0) rfl (show read JM j0 p = some P from hrd)
      omega
    rw [eT] at cs
    have HP := hidden hP
    have Hbd := hidden hbd
    have Hne := hidden hne
    have Hk6 := hidden hk6
    have Hit := hidden hit
    have Hcol := hidden (rd_colon hrd)
    have Hp := hidden hp
    have Hr := hidden h
    clear hP hbd hne hk6 hit hp h hrd hck eT
    obtain ⟨N, hN⟩ : ∃ N, T.length = N := ⟨_, rfl⟩
    obtain ⟨X, hX⟩ : ∃ X, str p = X := ⟨_, rfl⟩
    have HX := hidden hX
    have HN := hidden hN
    clear hX hN
    rw [HN.out] at hTl
    go_enter Try.func14, Try.ntmps14
    go_wp2_with fail
    refine cs.mono ?_
    clear cs
    rintro e w1 ⟨tv, rfl, ht, hb⟩
    have hcv := conv_str (Hr.out.below hb) Hp.out
    rw [HX.out] at hcv
    obtain ⟨ta, tc, rfl, ht0⟩ := id ht
    clear ht0
    rw [HN.out]
    have HT := hidden ht
    have HB := hidden hb
    clear ht hb
    go_wp2_with fail
    go_loopw [12, 13, 32] (fun lv la i wr => ∃ q : Nat, q ≤ N ∧ i = .int .i64 (q : Nat) ∧ la = .int .u8 (laQ P q : Nat) ∧ wr.ownsRow w1.heap.size 54 6 lv (itQ false P q).length (rowI (itQ false P q)) ∧ Below w1.heap.size w1 wr) (fun _ _ i _ => N - (intOf i).toNat)
    case atStart => exact ⟨0, Nat.zero_le _, rfl, rfl, World.ownsRow_nil _ _ _ _, Below.refl _ _⟩
    case round =>
      obtain ⟨q, hq, rfl, rfl, hown, hbe⟩ := hrel
      by_cases hlt : q < N
      · have hlz : (q : Int) < (N : Int) := by omega
        obtain ⟨t, hT⟩ : ∃ t, T[q]? = some t := ⟨_, List.getElem?_eq_getElem (by rw [HN.out]; exact hlt)⟩
        have hPq : P[q]? = some (pcs p t) := by rw [← HP.out, List.getElem?_map, hT]; rfl
        obtain ⟨tg, tc', e0, hcap, c0, c1, c2⟩ := tk_at (HT.out.below hbe) hT
        injection e0 with e1 e2 e3
        subst e1 e3
        obtain ⟨es, el⟩ := itQ_succ (s := false) hPq
        have hkt : t.1 < 256 := Hk6.out _ (List.mem_of_getElem? hPq)
        have hbt := Hbd.out t (List.mem_of_getElem? hT)
        have hlaQ := laQ_lt Hk6.out q
        have hlen := itQ_len false P q
        have hszr := hbe.size
        have Hown := hidden hown
        have Hbe := hidden hbe
        have Es := hidden es
        have El := hidden el
        have Hbt := hidden hbt
        obtain ⟨k, a, m⟩ := t
        have hbcol : (pcs p (k, a, m)).1 = 4 → (pcs p (k, a, m)).2 = [58] := Hcol.out _ (List.mem_of_getElem? hPq)
        simp only at c0 c1 c2 hkt
        clear hown hbe es el hbt hT hPq
        generalize laQ P q = la at *
        rw [HN.out] at hcap
        have HW : Hid (RW w1 (wr.alloc (.cells #[.int .u8 (k : Nat), .int .i64 (a : Nat), .int .i64 (m : Nat)] 47)) u12 (itQ false P q) wr.heap.size k a m) := ⟨Hown.out.alloc _, Hbe.out.alloc hszr _, heap_alloc_new _ _, hszr⟩
        have cw := fun W => word_any p (k, a, m) W hkt (by omega) Hbt.out
        simp only at cw
        rw [HX.out] at cw
        have HCol := hidden (colon_tx hbcol)
        generalize itQ false P q = L at *
        clear Hown Hbe hszr
        go_wp2_with fail
        refine (jgap_any la k _ hlaQ hkt).mono ?_
        rintro e w2 ⟨gu, rfl, hg, hb2⟩
        have HW2 := hidden (HW.out.below hb2)
        have HG := hidden hg
        clear hg hb2 HW
        go_wp2_with (at_builtin; refine app_rw rfl (.tmp 36) (.tmp 41) rfl HW2.out rfl _ _ HG.out rfl (by omega) (gapI_len _ _ _) ?_)
        intro v3 w3 HW3
        obtain ⟨d0, d1, d2⟩ := HW3.out.c
        clear HW2 HG
        go_wp2_with fail
        refine (cw w3).mono ?_
        rintro e w4 ⟨rfl, hb4⟩
        have HW4 := hidden (HW3.out.below hb4)
        have ex : str (if k = 4 then [58, 32] else sl p a m) = str (itx chn (pcs p (k, a, m))).tx := by rw [HCol.out]
        rw [ex]
        have hit : ∀ Y, Y = str (itx chn (pcs p (k, a, m))).tx → (#[Value.int .u8 1, .string Y, .int .i64 0, .int .i64 0, .bool false, .bool false] : Array Value) = (itC (itx chn (pcs p (k, a, m)))).toArray := fun Y hY => by rw [hY]; rfl
        generalize hY : str (itx chn (pcs p (k, a, m))).tx = Y at *
        have HI := hidden (hit Y rfl)
        clear hit hb4 HW3 cw ex hY
        go_wp2_with (at_builtin; refine app_rw rfl (.tmp 43) (.tmp 48) rfl (HW4.out.alloc _) rfl _ _ (gap_of_new HI.out) rfl (by rw [List.length_append]; have := gapI_len false la k; omega) (by simp) ?_)
        intro v5 w5 HW5
        obtain ⟨f0, f1, f2⟩ := HW5.out.c
        clear HW4
        by_cases hsh : k = 2 ∧ la ≠ 1
        · obtain ⟨hk2, hl1⟩ := hsh
          have eS : shutI la k = [en] := by unfold shutI; rw [if_pos ⟨hk2, hl1⟩]
          have z2 : ((k : Int) == 2) = true := by simp [hk2]
          have z1 : ((la : Int) != 1) = true := by simp; omega
          have HS := hidden eS
          clear hk2 hl1 eS
          go_wp2_with (at_builtin; refine app_rw rfl (.tmp 57) (.tmp 59) rfl (HW5.out.alloc _) rfl _ _ (gap_of_new (x := en) rfl) rfl (by rw [List.length_append, List.length_append]; have := gapI_len false la k; simp; omega) (by simp) ?_)
          intro v6 w6 HW6
          obtain ⟨g0, g1, g2⟩ := HW6.out.c
          clear HW5
          go_wp2_with fail
          go_roundw
          case rel =>
            refine ⟨q + 1, by omega, by go_num, ?_, ?_, HW6.out.bel⟩
            · rw [El.out]; rfl
            · rw [Es.out]
              have ho := HW6.out.own
              have e : shutI la (pcs p (k, a, m)).1 = [en] := HS.out
              rw [e]
              exact ho
          case measure => simp [intOf]; omega
        · have eS : shutI la k = [] := by unfold shutI; rw [if_neg hsh]
          have HS := hidden eS
          clear eS
          by_cases hk2 : k = 2
          · have z2 : ((k : Int) == 2) = true := by simp [hk2]
            have z1 : ((la : Int) != 1) = false := by simp; omega
            clear hsh hk2
            go_wp2_with fail
            go_roundw
            case rel =>
              refine ⟨q + 1, by omega, by go_num, ?_, ?_, HW5.out.bel⟩
              · rw [El.out]; rfl
              · rw [Es.out]
                have ho := HW5.out.own
                have e : shutI la (pcs p (k, a, m)).1 = [] := HS.out
                rw [e]
                exact ho
            case measure => simp [intOf]; omega
          · have z2 : ((k : Int) == 2) = false := by simp; omega
            clear hsh hk2
            go_wp2_with fail
            go_roundw
            case rel =>
              refine ⟨q + 1, by omega, by go_num, ?_, ?_, HW5.out.bel⟩
              · rw [El.out]; rfl
              · rw [Es.out]
                have ho := HW5.out.own
                have e : shutI la (pcs p (k, a, m)).1 = [] := HS.out
                rw [e]
                exact ho
            case measure => simp [intOf]; omega
      · have hqN : q = N := by omega
        have hlz : ¬ ((q : Int) < (N : Int)) := by omega
        have e : itQ false P q = itms chn false 0 P := by
          unfold itQ
          rw [List.take_of_length_le (by rw [hqN, ← HN.out, ← HP.out, List.length_map]; omega)]
          exact Hit.out
        rw [e] at hown
        have Hown := hidden hown
        have Hbe := hidden hbe
        clear hqN e hown hbe
        go_wp2_with fail
        go_ret3
        exact ⟨⟨_, rfl, isItems_of Hown.out⟩, HB.out.trans (Hbe.out.mono HB.out.size)⟩

set_option maxHeartbeats 4000000 in
theorem items_true {v : Value} {p : List Nat} {w : World} (hp : ∀ c ∈ p, c < 256) (hn : p.length ≤ 69000) (h : RowL w v p) :
    Calls Try.prog 14 #[v, .bool true] w fun e w' => ItRes true p w e w' ∧ Below w.heap.size w w' := by
  have cs := tread_any true hp (by omega) h
  unfold ItRes
  cases hrd : rd true p with
  | none =>
    have hne := ansL_no hrd
    generalize ansL true p = o at *
    obtain ⟨T, at', er⟩ := o
    simp only at hne
    have z0 : ((er : Int) != 0) = true := by simp; omega
    clear h hrd hne
    go_enter Try.func14, Try.ntmps14
    go_wp2_with fail
    refine cs.mono ?_
    clear cs
    rintro e w' ⟨tv, rfl, ht, hb⟩
    go_wp2_with fail
    go_ret3
    exact ⟨rfl, hb⟩
  | some P =>
    obtain ⟨T, eT, hP, hbd⟩ := ansL_ok hrd
    have hne := rd_ne hrd
    have hck := (rd_ck hrd).1
    have hk6 : ∀ t ∈ P, t.1 < 256 := by
      have key : ∀ (L : List Pc) (a : Nat), Ck (okB true) a L → ∀ t ∈ L, t.1 < 256 := by
        intro L
        induction L with
        | nil => intro a _ t ht; cases ht
        | cons x r ih =>
          intro a hc t ht
          rcases List.mem_cons.1 ht with rfl | ht
          · have := hc.1.1; omega
          · exact ih x.1 hc.2 t ht
      exact key P 0 hck
    have hit := itmP_itms chn hrd
    have hTl : T.length ≤ 69000 := by
      have h1 : T.length = P.length := by rw [← hP, List.length_map]
      have h2 := len_totb P hne
      have h3 : P.length ≤ p.length := by
        exact read_cn sm_ok (c := ((0, 0) : Nat × Nat)) rfl (show read SM (0, 0) p = some P from hrd)
      omega
    rw [eT] at cs
    have HP := hidden hP
    have Hbd := hidden hbd
    have Hne := hidden hne
    have Hk6 := hidden hk6
    have Hit := hidden hit
    have Hcol := hidden (rd_colon hrd)
    have Hp := hidden hp
    have Hr := hidden h
    clear hP hbd hne hk6 hit hp h hrd hck eT
    obtain ⟨N, hN⟩ : ∃ N, T.length = N := ⟨_, rfl⟩
    obtain ⟨X, hX⟩ : ∃ X, str p = X := ⟨_, rfl⟩
    have HX := hidden hX
    have HN := hidden hN
    clear hX hN
    rw [HN.out] at hTl
    go_enter Try.func14, Try.ntmps14
    go_wp2_with fail
    refine cs.mono ?_
    clear cs
    rintro e w1 ⟨tv, rfl, ht, hb⟩
    have hcv := conv_str (Hr.out.below hb) Hp.out
    rw [HX.out] at hcv
    obtain ⟨ta, tc, rfl, ht0⟩ := id ht
    clear ht0
    rw [HN.out]
    have HT := hidden ht
    have HB := hidden hb
    clear ht hb
    go_wp2_with fail
    go_loopw [12, 13, 32] (fun lv la i wr => ∃ q : Nat, q ≤ N ∧ i = .int .i64 (q : Nat) ∧ la = .int .u8 (laQ P q : Nat) ∧ wr.ownsRow w1.heap.size 54 6 lv (itQ true P q).length (rowI (itQ true P q)) ∧ Below w1.heap.size w1 wr) (fun _ _ i _ => N - (intOf i).toNat)
    case atStart => exact ⟨0, Nat.zero_le _, rfl, rfl, World.ownsRow_nil _ _ _ _, Below.refl _ _⟩
    case round =>
      obtain ⟨q, hq, rfl, rfl, hown, hbe⟩ := hrel
      by_cases hlt : q < N
      · have hlz : (q : Int) < (N : Int) := by omega
        obtain ⟨t, hT⟩ : ∃ t, T[q]? = some t := ⟨_, List.getElem?_eq_getElem (by rw [HN.out]; exact hlt)⟩
        have hPq : P[q]? = some (pcs p t) := by rw [← HP.out, List.getElem?_map, hT]; rfl
        obtain ⟨tg, tc', e0, hcap, c0, c1, c2⟩ := tk_at (HT.out.below hbe) hT
        injection e0 with e1 e2 e3
        subst e1 e3
        obtain ⟨es, el⟩ := itQ_succ (s := true) hPq
        have hkt : t.1 < 256 := Hk6.out _ (List.mem_of_getElem? hPq)
        have hbt := Hbd.out t (List.mem_of_getElem? hT)
        have hlaQ := laQ_lt Hk6.out q
        have hlen := itQ_len true P q
        have hszr := hbe.size
        have Hown := hidden hown
        have Hbe := hidden hbe
        have Es := hidden es
        have El := hidden el
        have Hbt := hidden hbt
        obtain ⟨k, a, m⟩ := t
        have hbcol : (pcs p (k, a, m)).1 = 4 → (pcs p (k, a, m)).2 = [58] := Hcol.out _ (List.mem_of_getElem? hPq)
        simp only at c0 c1 c2 hkt
        clear hown hbe es el hbt hT hPq
        generalize laQ P q = la at *
        rw [HN.out] at hcap
        have HW : Hid (RW w1 (wr.alloc (.cells #[.int .u8 (k : Nat), .int .i64 (a : Nat), .int .i64 (m : Nat)] 47)) u12 (itQ true P q) wr.heap.size k a m) := ⟨Hown.out.alloc _, Hbe.out.alloc hszr _, heap_alloc_new _ _, hszr⟩
        have cw := fun W => word_any p (k, a, m) W hkt (by omega) Hbt.out
        simp only at cw
        rw [HX.out] at cw
        have HCol := hidden (colon_tx hbcol)
        generalize itQ true P q = L at *
        clear Hown Hbe hszr
        go_wp2_with fail
        refine (sgap_any la k _ hlaQ hkt).mono ?_
        rintro e w2 ⟨gu, rfl, hg, hb2⟩
        have HW2 := hidden (HW.out.below hb2)
        have HG := hidden hg
        clear hg hb2 HW
        go_wp2_with (at_builtin; refine app_rw rfl (.tmp 36) (.tmp 41) rfl HW2.out rfl _ _ HG.out rfl (by omega) (gapI_len _ _ _) ?_)
        intro v3 w3 HW3
        obtain ⟨d0, d1, d2⟩ := HW3.out.c
        clear HW2 HG
        go_wp2_with fail
        refine (cw w3).mono ?_
        rintro e w4 ⟨rfl, hb4⟩
        have HW4 := hidden (HW3.out.below hb4)
        have ex : str (if k = 4 then [58, 32] else sl p a m) = str (itx chn (pcs p (k, a, m))).tx := by rw [HCol.out]
        rw [ex]
        have hit : ∀ Y, Y = str (itx chn (pcs p (k, a, m))).tx → (#[Value.int .u8 1, .string Y, .int .i64 0, .int .i64 0, .bool false, .bool false] : Array Value) = (itC (itx chn (pcs p (k, a, m)))).toArray := fun Y hY => by rw [hY]; rfl
        generalize hY : str (itx chn (pcs p (k, a, m))).tx = Y at *
        have HI := hidden (hit Y rfl)
        clear hit hb4 HW3 cw ex hY
        go_wp2_with (at_builtin; refine app_rw rfl (.tmp 43) (.tmp 48) rfl (HW4.out.alloc _) rfl _ _ (gap_of_new HI.out) rfl (by rw [List.length_append]; have := gapI_len true la k; omega) (by simp) ?_)
        intro v5 w5 HW5
        obtain ⟨f0, f1, f2⟩ := HW5.out.c
        clear HW4
        by_cases hsh : k = 2 ∧ la ≠ 1
        · obtain ⟨hk2, hl1⟩ := hsh
          have eS : shutI la k = [en] := by unfold shutI; rw [if_pos ⟨hk2, hl1⟩]
          have z2 : ((k : Int) == 2) = true := by simp [hk2]
          have z1 : ((la : Int) != 1) = true := by simp; omega
          have HS := hidden eS
          clear hk2 hl1 eS
          go_wp2_with (at_builtin; refine app_rw rfl (.tmp 57) (.tmp 59) rfl (HW5.out.alloc _) rfl _ _ (gap_of_new (x := en) rfl) rfl (by rw [List.length_append, List.length_append]; have := gapI_len true la k; simp; omega) (by simp) ?_)
          intro v6 w6 HW6
          obtain ⟨g0, g1, g2⟩ := HW6.out.c
          clear HW5
          go_wp2_with fail
          go_roundw
          case rel =>
            refine ⟨q + 1, by omega, by go_num, ?_, ?_, HW6.out.bel⟩
            · rw [El.out]; rfl
            · rw [Es.out]
              have ho := HW6.out.own
              have e : shutI la (pcs p (k, a, m)).1 = [en] := HS.out
              rw [e]
              exact ho
          case measure => simp [intOf]; omega
        · have eS : shutI la k = [] := by unfold shutI; rw [if_neg hsh]
          have HS := hidden eS
          clear eS
          by_cases hk2 : k = 2
          · have z2 : ((k : Int) == 2) = true := by simp [hk2]
            have z1 : ((la : Int) != 1) = false := by simp; omega
            clear hsh hk2
            go_wp2_with fail
            go_roundw
            case rel =>
              refine ⟨q + 1, by omega, by go_num, ?_, ?_, HW5.out.bel⟩
              · rw [El.out]; rfl
              · rw [Es.out]
                have ho := HW5.out.own
                have e : shutI la (pcs p (k, a, m)).1 = [] := HS.out
                rw [e]
                exact ho
            case measure => simp [intOf]; omega
          · have z2 : ((k : Int) == 2) = false := by simp; omega
            clear hsh hk2
            go_wp2_with fail
            go_roundw
            case rel =>
              refine ⟨q + 1, by omega, by go_num, ?_, ?_, HW5.out.bel⟩
              · rw [El.out]; rfl
              · rw [Es.out]
                have ho := HW5.out.own
                have e : shutI la (pcs p (k, a, m)).1 = [] := HS.out
                rw [e]
                exact ho
            case measure => simp [intOf]; omega
      · have hqN : q = N := by omega
        have hlz : ¬ ((q : Int) < (N : Int)) := by omega
        have e : itQ true P q = itms chn true 0 P := by
          unfold itQ
          rw [List.take_of_length_le (by rw [hqN, ← HN.out, ← HP.out, List.length_map]; omega)]
          exact Hit.out
        rw [e] at hown
        have Hown := hidden hown
        have Hbe := hidden hbe
        clear hqN e hown hbe
        go_wp2_with fail
        go_ret3
        exact ⟨⟨_, rfl, isItems_of Hown.out⟩, HB.out.trans (Hbe.out.mono HB.out.size)⟩
end Go.Proofs.PlatenTree
