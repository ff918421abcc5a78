/- Lists and objects in one another, so many: what the machine says of them. Two own rows side by side. -/
import Derived.Test.YtapghnmeiahgoaaAp
namespace Go.Proofs.Ytapghnmeiahgoaa
open Go.ChangeShapes Go.WideShapes Go.ChangeAt Go.RowKit Go.Proofs.PlatenJson
set_option linter.unusedVariables false
set_option maxRecDepth 100000

/-- From byte j on the text is L. -/
def Lat (f : Nat → Nat) (j : Nat) (L : List Nat) : Prop := ∀ t x, L[t]? = some x → f (j + t) = x
theorem lat_fOf (L : List Nat) : Lat (fOf L) 0 L := by
  intro t x h
  rw [Nat.zero_add]
  unfold fOf
  rw [List.getD_eq_getElem?_getD, h]
  rfl
theorem Lat.left {f : Nat → Nat} {j : Nat} {A B : List Nat} (h : Lat f j (A ++ B)) : Lat f j A := fun t x e => h t x (by
  have : t < A.length := (List.getElem?_eq_some_iff.1 e).1
  rw [List.getElem?_append_left this]; exact e)
theorem Lat.right {f : Nat → Nat} {j : Nat} {A B : List Nat} (h : Lat f j (A ++ B)) : Lat f (j + A.length) B := fun t x e => by
  rw [Nat.add_assoc]
  exact h _ x (by rw [List.getElem?_append_right (by omega), Nat.add_sub_cancel_left]; exact e)
theorem Lat.head {f : Nat → Nat} {j a : Nat} {A : List Nat} (h : Lat f j (a :: A)) : f j = a := h 0 a rfl
theorem Lat.tail {f : Nat → Nat} {j a : Nat} {A : List Nat} (h : Lat f j (a :: A)) : Lat f (j + 1) A := fun t x e => by
  rw [Nat.add_assoc, Nat.add_comm 1 t]
  exact h (t + 1) x e

def op (b : Bool) : List Nat := if b then [123, 34, 34, 58] else [91]
def ob (b : Bool) : Nat := if b then 123 else 91
def bk (b : Bool) : Nat := if b then 125 else 93
def OL (l : List Bool) : List Nat := l.flatMap op
theorem OL_snoc (l : List Bool) (b : Bool) : OL (l ++ [b]) = OL l ++ op b := by simp [OL]
theorem OL_cons (b : Bool) (l : List Bool) : OL (b :: l) = op b ++ OL l := by simp [OL]
theorem op_len (b : Bool) : 1 ≤ (op b).length ∧ (op b).length ≤ 4 := by cases b <;> decide
theorem OL_len : ∀ l : List Bool, (OL l).length ≤ 4 * l.length
  | [] => Nat.le_refl _
  | b :: l => by
    rw [OL_cons, List.length_append, List.length_cons]
    have := OL_len l
    have := op_len b
    omega
theorem OL_lt (l : List Bool) : ∀ c ∈ OL l, c < 256 := by
  intro c hc
  obtain ⟨b, _, hb⟩ := List.mem_flatMap.1 hc
  cases b <;> simp [op] at hb <;> omega

section
variable {f : Nat → Nat} {n : Nat} {o : Res}
theorem deep_step {st : Nat} {S : List Nat} {T : List Tk} {j : Nat} (b : Bool) (h : Cv f n o st S T false j) (hs : st = 0 ∨ st = 1) (ha : Lat f j (op b)) (hn : j + (op b).length ≤ n) (hd : S.length ≠ 512) :
    ∃ st' T', (st' = 0 ∨ st' = 1) ∧ Cv f n o st' (ob b :: S) T' false (j + (op b).length) := by
  cases b with
  | false =>
    have h0 : f j = 91 := Lat.head ha
    have hn' : j + 1 ≤ n := hn
    have := l_open h hs (by omega) (Or.inl h0) hd
    rw [h0, if_neg (by decide)] at this
    exact ⟨1, _, Or.inr rfl, this⟩
  | true =>
    have h0 : f j = 123 := Lat.head ha
    have h1 : f (j + 1) = 34 := Lat.head (Lat.tail ha)
    have h2 : f (j + 1 + 1) = 34 := Lat.head (Lat.tail (Lat.tail ha))
    have h3 : f (j + 1 + 1 + 1) = 58 := Lat.head (Lat.tail (Lat.tail (Lat.tail ha)))
    have hn' : j + 4 ≤ n := hn
    have a1 := l_open h hs (by omega) (Or.inr h0) hd
    rw [h0, if_pos rfl] at a1
    have a2 := t_name a1 (Or.inl rfl) (by omega) h1
    have a3 := t_close a2 (by omega) h2
    rw [if_pos rfl] at a3
    have a4 := c_colon a3 (by omega) h3
    exact ⟨0, _, Or.inl rfl, a4⟩
theorem deep_opens : ∀ (l : List Bool) {st : Nat} {S : List Nat} {T : List Tk} {j : Nat}, Cv f n o st S T false j → (st = 0 ∨ st = 1) → Lat f j (OL l) → j + (OL l).length ≤ n → S.length + l.length ≤ 512 →
    ∃ st' T', (st' = 0 ∨ st' = 1) ∧ Cv f n o st' ((l.map ob).reverse ++ S) T' false (j + (OL l).length)
  | [], st, S, T, j, h, hs, ha, hn, hd => ⟨st, T, hs, h⟩
  | b :: l, st, S, T, j, h, hs, ha, hn, hd => by
    rw [OL_cons] at ha hn ⊢
    rw [List.length_append] at hn ⊢
    rw [List.length_cons] at hd
    obtain ⟨s1, T1, hs1, h1⟩ := deep_step b h hs ha.left (by omega) (by omega)
    obtain ⟨s2, T2, hs2, h2⟩ := deep_opens l h1 hs1 ha.right (by omega) (by rw [List.length_cons]; omega)
    refine ⟨s2, T2, hs2, ?_⟩
    rw [List.map_cons, List.reverse_cons, List.append_assoc, ← Nat.add_assoc]
    exact h2
theorem deep_deep : ∀ (l : List Bool) {st : Nat} {S : List Nat} {T : List Tk} {j : Nat}, Cv f n o st S T false j → (st = 0 ∨ st = 1) → Lat f j (OL l) → j + (OL l).length ≤ n → S.length ≤ 512 → 512 < S.length + l.length →
    ∃ k, o = ([], k, 6)
  | [], st, S, T, j, h, hs, ha, hn, h5, hd => absurd hd (by simp; omega)
  | b :: l, st, S, T, j, h, hs, ha, hn, h5, hd => by
    rw [OL_cons] at ha hn
    rw [List.length_append] at hn
    rw [List.length_cons] at hd
    have hb := op_len b
    by_cases hS : S.length = 512
    · have h0 : f j = 91 ∨ f j = 123 := by
        cases b with
        | false => exact Or.inl (Lat.head ha.left)
        | true => exact Or.inr (Lat.head ha.left)
      exact ⟨j, l_deep h hs (by omega) h0 hS⟩
    · obtain ⟨s1, T1, hs1, h1⟩ := deep_step b h hs ha.left (by omega) hS
      exact deep_deep l h1 hs1 ha.right (by omega) (by rw [List.length_cons]; omega) (by rw [List.length_cons]; omega)
theorem deep_closes : ∀ (l : List Bool) {T : List Tk} {j m : Nat}, Cv f n o 5 (l.map ob) T false j → m ≤ l.length → Lat f j ((l.take m).map bk) → j + m ≤ n →
    ∃ T', Cv f n o 5 ((l.drop m).map ob) T' false (j + m)
  | l, T, j, 0, h, hm, ha, hn => ⟨T, h⟩
  | [], T, j, m + 1, h, hm, ha, hn => absurd hm (by simp)
  | b :: l, T, j, m + 1, h, hm, ha, hn => by
    rw [List.take_succ_cons, List.map_cons] at ha
    rw [List.map_cons] at h
    have h0 := ha.head
    have h1 := l_close h (Or.inl rfl) (by omega) (by cases b <;> simp [ob, bk] at h0 ⊢ <;> exact h0)
    obtain ⟨T', h2⟩ := deep_closes l h1 (by simpa using hm) ha.tail (by omega)
    refine ⟨T', ?_⟩
    rw [List.drop_succ_cons, show j + (m + 1) = j + 1 + m by omega]
    exact h2
end

/-- The text of JsonDeep: the opening ones, a number, m of the closing ones. -/
def PL (l : List Bool) (m : Nat) : List Nat := OL l ++ [48] ++ (l.reverse.take m).map bk
theorem PL_len (l : List Bool) (m : Nat) (hm : m ≤ l.length) : (PL l m).length = (OL l).length + 1 + m := by
  unfold PL
  rw [List.length_append, List.length_append, List.length_map, List.length_take, List.length_reverse, Nat.min_eq_left hm]
  rfl
theorem PL_lt (l : List Bool) (m : Nat) : ∀ c ∈ PL l m, c < 256 := by
  intro c hc
  unfold PL at hc
  simp only [List.mem_append, List.mem_singleton, List.mem_map] at hc
  rcases hc with (h | rfl) | ⟨b, _, rfl⟩
  · exact OL_lt l c h
  · decide
  · cases b <;> decide
theorem PL_succ (l : List Bool) (m : Nat) (hm : m < l.length) : PL l (m + 1) = PL l m ++ [(l.map bk).getD (l.length - 1 - m) 0] := by
  unfold PL
  rw [List.take_add_one, List.map_append, ← List.append_assoc]
  congr 1
  rw [List.getElem?_reverse hm, List.getD_eq_getElem?_getD, List.getElem?_map, List.getElem?_eq_getElem (by omega)]
  rfl
theorem ans_deep (l : List Bool) (m : Nat) (hm : m ≤ l.length) (hl : 512 < l.length) : ∃ k, ans (fOf (PL l m)) (PL l m).length = ([], k, 6) := by
  have hp := PL_len l m hm
  have ha := lat_fOf (PL l m)
  refine deep_deep l (Go.Proofs.PlatenJson.start _ _) (Or.inl rfl) (Lat.left (Lat.left ha)) ?_ (by simp) (by simpa using hl)
  omega
theorem ans_lev (l : List Bool) (m : Nat) (hm : m ≤ l.length) (hl : l.length ≤ 512) :
    (m = l.length → (ans (fOf (PL l m)) (PL l m).length).2.2 = 0) ∧ (m < l.length → (ans (fOf (PL l m)) (PL l m).length).2.2 = 5) := by
  have hp := PL_len l m hm
  have ha := lat_fOf (PL l m)
  have hc := Go.Proofs.PlatenJson.start (fOf (PL l m)) (PL l m).length
  generalize ans (fOf (PL l m)) (PL l m).length = o at *
  generalize fOf (PL l m) = f at *
  generalize (PL l m).length = n at *
  unfold PL at ha
  obtain ⟨s1, T1, hs1, h1⟩ := deep_opens l hc (Or.inl rfl) ha.left.left (by omega) (by simpa using hl)
  have h48 := ha.left.right.head
  have hr := ha.right
  rw [List.length_append, ← Nat.add_assoc] at hr
  replace hr : Lat f (0 + (OL l).length + 1) ((l.reverse.take m).map bk) := hr
  rw [List.append_nil] at h1
  have h2 := s_zero h1 hs1 (by omega) h48
  have h3 := n_atom h2 rfl (by omega) (fun hj => by
    cases m with
    | zero => exact absurd hj (by omega)
    | succ m =>
      have : f (0 + (OL l).length + 1) = 93 ∨ f (0 + (OL l).length + 1) = 125 := by
        cases e : l.reverse with
        | nil => exact absurd hm (by rw [← List.length_reverse, e]; simp)
        | cons b r =>
          rw [e, List.take_succ_cons, List.map_cons] at hr
          rw [hr.head]
          cases b <;> simp [bk]
      rcases this with h | h <;> rw [h] <;> decide)
  simp only [if_neg Bool.false_ne_true] at h3
  rw [← List.map_reverse] at h3
  obtain ⟨T2, h4⟩ := deep_closes l.reverse h3 (by simpa using hm) hr (by omega)
  rw [show 0 + (OL l).length + 1 + m = n by omega] at h4
  refine ⟨fun e => ?_, fun e => ?_⟩
  · rw [List.drop_eq_nil_of_le (by simp; omega)] at h4
    rw [top_ok h4]
  · cases e2 : l.reverse.drop m with
    | nil => exact absurd (List.drop_eq_nil_iff.1 e2) (by simp; omega)
    | cons b r =>
      rw [e2, List.map_cons] at h4
      rw [l_end h4]

/-- Two own rows of bytes, apart. -/
def Two (B : Nat) (w0 w : World) (p q : Value) (L M : List Nat) : Prop :=
  w.ownsRow B 5 1 p L.length (rowL L) ∧ w.ownsRow B 5 1 q M.length (rowL M) ∧ (∀ g, p.ownBlock = some g → q.ownBlock ≠ some g) ∧ Below B w0 w ∧ B ≤ w.heap.size
theorem Two.alloc {B : Nat} {w0 w : World} {p q : Value} {L M : List Nat} (h : Two B w0 w p q L M) (o : Obj) : Two B w0 (w.alloc o) p q L M :=
  ⟨h.1.alloc o, h.2.1.alloc o, h.2.2.1, h.2.2.2.1.alloc h.2.2.2.2 o, by have := h.2.2.2.2; simp; omega⟩
theorem Two.swap {B : Nat} {w0 w : World} {p q : Value} {L M : List Nat} (h : Two B w0 w p q L M) : Two B w0 w q p M L :=
  ⟨h.2.1, h.1, fun g e e' => h.2.2.1 g e' e, h.2.2.2.1, h.2.2.2.2⟩
theorem cells_lit (X : World) (L : List Nat) (cs : Array Value) (z : Nat × Nat) (h : cs = (rowL L).toArray) : ∀ j u, (rowL L)[j]? = some u → (X.alloc (.cells cs 5 z)).cell? ((⟨X.heap.size, 0, none⟩ : Addr).add j) = some u := by
  intro j u hj
  have := heap_alloc_new X (.cells cs 5 z)
  have ea : (⟨X.heap.size, 0, none⟩ : Addr).add j = ⟨X.heap.size, j, none⟩ := by unfold Addr.add; split <;> simp_all
  rw [ea]
  unfold World.cell?
  rw [this, h]
  simpa using hj
/-- Some bytes behind the first of them, from a block that was just made. -/
theorem app_two {ops : Array Oper} {rest : List Oper} {o : Oper} {a : Act} {Q : Exit → Act → World → Prop} {w : World} (hgd : o.guard = none) (s x : Operand)
    (ho : o.op = .call { callee := .builtin .append, args := #[s, x], argTypes := #[22, 22] }) (B : Nat) (w0 : World) (v q : Value) (L M X : List Nat) (cs : Array Value) (hcs : cs = (rowL X).toArray)
    (ht : Two B w0 w v q L M) (hs : a.eval s = v) (c : Nat) (hx : a.eval x = .slice (some ⟨w.heap.size, 0, none⟩) X.length c) (hX : 0 < X.length) (hl : L.length + X.length ≤ 100000)
    (h : ∀ v' w', Two B w0 w' v' q (L ++ X) M → wpList Try.prog ops Q rest (a.put o.dst v') w') : wpList Try.prog ops Q (o :: rest) a (w.alloc (.cells cs 5)) := by
  obtain ⟨i0, hi, hz0, hz1, hz2⟩ := info_parts info5
  obtain ⟨h1, h2, h3, h4, h5⟩ := ht
  refine wpList_append_at _ hgd s x 22 ho B 5 i0 (.int .u8 0) 1 1 Try.underlying22 hi hz0 hz1 hz2 rfl (by decide) v L.length (rowL L) hs (h1.alloc _) ⟨w.heap.size, 0, none⟩ X.length c (rowL X) hx (by rw [rowL_len, Nat.mul_one]) (cells_lit w X cs (0, 0) hcs) (rowL_ones _) (by unfold maxLen; omega) (by omega) (by simp; omega) hX fun v' w' k1 k2 k3 => h v' w' ⟨?_, ?_, ?_, ?_, ?_⟩
  · rw [List.length_append, rowL_app]; exact k1
  · refine (h2.alloc _).kept k2 ?_
    cases e : q.ownBlock with
    | none => exact Or.inl rfl
    | some g => exact Or.inr fun e' => h3 g e'.symm e
  · intro g e e'
    rcases k3 with k | k
    · exact h3 g (k.symm.trans e) e'
    · have := (h2.lt g e').2
      rw [k] at e
      injection e with e
      simp at e
      omega
  · exact (h4.alloc h5 _).grown k2 (by simp; omega) (fun j hj => (h1.lt j hj).1)
  · have := k2.size; simp at this; omega
end Go.Proofs.Ytapghnmeiahgoaa
