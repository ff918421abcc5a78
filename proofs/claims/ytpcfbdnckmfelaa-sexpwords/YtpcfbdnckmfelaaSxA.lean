/- A reader of S-expressions in memory; what strings.IndexByte comes to. -/
import Derived.Test.YtpcfbdnckmfelaaProg
import Derived.Test.YtpcfbdnckmfelaaSxM
import Derived.WalkKit
import Derived.WalkLawsBesides
import Derived.Lib.Bytealg
import Derived.Lib.AppendZeros
import Derived.Deep.RegionHeld3
namespace Go.Proofs.PlatenSexp
open Go Go.RowKit
set_option linter.unusedVariables false
set_option maxRecDepth 100000

theorem hidden {p : Prop} (h : p) : Hid p := h

/-! An append to a row of one's own, and where the row is behind it. -/
section
variable {P : Program}
theorem run_append_at (w : World) (base : Nat) (t ty e : TypeId) (i : TypeInfo) (z : Value) (size bytes : Nat) (ht : P.underlying t = some (.slice e)) (hi : P.info? e = some i) (hz : i.zero = some z)
    (hsize : i.size = size) (hby : i.bytes = bytes) (hzs : z.cells.size = size) (hsz : 0 < size)
    (v : Value) (n : Nat) (xs : List Value) (hown : w.ownsRow base e size v n xs)
    (a : Addr) (m c : Nat) (news : List Value) (hl : news.length = m * size) (hnews : ∀ j u, news[j]? = some u → w.cell? (a.add j) = some u) (h1 : ∀ u ∈ news, u.oneCell' = true)
    (h63 : n + m ≤ maxLen) (hbytes : (n + m) * bytes ≤ 140737488355328) (hbase : base ≤ w.heap.size) (hm : 0 < m) :
    ∃ v' w', (Builtin.append_ #[t, t] ty #[v, .slice (some a) m c]).run P w = .ok v' w' ∧ w'.ownsRow base e size v' (n + m) (xs ++ news) ∧ w.grownBy w' v.ownBlock ∧
      (v'.ownBlock = v.ownBlock ∨ v'.ownBlock = some w.heap.size) := by
  obtain ⟨v', w', hr, h2, h3, _⟩ := run_append_own (P := P) w base t ty e i z size bytes ht hi hz hsize hby hzs hsz v n xs hown a m c news hl hnews h1 h63 hbytes hbase
  refine ⟨v', w', hr, h2, h3, ?_⟩
  subst hsize
  subst hby
  have hsmall : n + m ≤ 9223372036854775807 := by simp only [maxLen] at h63; omega
  rcases hown.2 with ⟨rfl, rfl⟩ | ⟨g, cap, cur, rfl, hbg, hg, hnc, hcm, hcs, htake⟩
  · have hr2 := run_append_nil (P := P) w t ty e i z ht hi hz a m c news hl hnews (by omega) (by omega) (by have hb := hbytes; simp only [Nat.zero_add] at hb; omega)
    rw [hr] at hr2
    injection hr2 with e1 e2
    right
    rw [e1]
    rfl
  · by_cases hroom : n + m ≤ cap
    · have hfit : n * i.size + news.length ≤ cur.size := by rw [hl, hcs, ← Nat.add_mul]; exact Nat.mul_le_mul_right _ hroom
      have hr2 := run_append_room (P := P) w t ty e i ht hi g n cap cur hg a m c news hl hnews h1 hroom hfit
      rw [hr] at hr2
      injection hr2 with e1 e2
      left
      rw [e1]
      rfl
    · have holds : ∀ j u, xs[j]? = some u → w.cell? ((⟨g, 0, none⟩ : Addr).add j) = some u := hown.cells (g := g) rfl
      have hr2 := run_append_grow (P := P) w t ty e i z ht hi hz ⟨g, 0, none⟩ n cap xs hown.1 holds a m c news hl hnews (by omega) (by omega) (growslice_fits (by omega) hbytes)
      rw [hr] at hr2
      injection hr2 with e1 e2
      right
      rw [e1]
      rfl
theorem wpList_append_at (w : World) {ops : Array Oper} {rest : List Oper} {o : Oper} {a : Act} {Q : Exit → Act → World → Prop} (hgd : o.guard = none) (s x : Operand) (t : TypeId)
    (ho : o.op = .call { callee := .builtin .append, args := #[s, x], argTypes := #[t, t] })
    (base : Nat) (e : TypeId) (i : TypeInfo) (z : Value) (size bytes : Nat) (ht : P.underlying t = some (.slice e)) (hi : P.info? e = some i) (hz : i.zero = some z)
    (hsize : i.size = size) (hby : i.bytes = bytes) (hzs : z.cells.size = size) (hsz : 0 < size)
    (v : Value) (n : Nat) (xs : List Value) (hs : a.eval s = v) (hown : w.ownsRow base e size v n xs)
    (ad : Addr) (m c : Nat) (news : List Value) (hx : a.eval x = .slice (some ad) m c) (hl : news.length = m * size) (hnews : ∀ j u, news[j]? = some u → w.cell? (ad.add j) = some u) (h1 : ∀ u ∈ news, u.oneCell' = true)
    (h63 : n + m ≤ maxLen) (hbytes : (n + m) * bytes ≤ 140737488355328) (hbase : base ≤ w.heap.size) (hm : 0 < m)
    (h : ∀ v' w', w'.ownsRow base e size v' (n + m) (xs ++ news) → w.grownBy w' v.ownBlock → (v'.ownBlock = v.ownBlock ∨ v'.ownBlock = some w.heap.size) → wpList P ops Q rest (a.put o.dst v') w') : wpList P ops Q (o :: rest) a w := by
  obtain ⟨v', w', hr, h2, h3, h4⟩ := run_append_at (P := P) w base t o.type e i z size bytes ht hi hz hsize hby hzs hsz v n xs hown ad m c news hl hnews h1 h63 hbytes hbase hm
  exact Lib.wpList_append_run w hgd s x t t ho _ _ hs hx _ _ hr (h v' w' h2 h3 h4)
end
theorem row_same {B : Nat} {w w' : World} {e : TypeId} {s n : Nat} {v : Value} {xs : List Value} (h : w.ownsRow B e s v n xs) (hb : ∀ k, v.ownBlock = some k → w'.heap[k]? = w.heap[k]?) : w'.ownsRow B e s v n xs := by
  obtain ⟨h0, h1⟩ := h
  refine ⟨h0, ?_⟩
  rcases h1 with h1 | ⟨g, cap, cur, e1, e2, e3, e4⟩
  · exact Or.inl h1
  · exact Or.inr ⟨g, cap, cur, e1, e2, (hb g (by rw [e1]; rfl)).trans e3, e4⟩
theorem row_ty {B : Nat} {w : World} {e : TypeId} {s n : Nat} {v : Value} {xs : List Value} (h : w.ownsRow B e s v n xs) {k : Nat} (hk : v.ownBlock = some k) : ∃ c, w.heap[k]? = some (.cells c e (0, 0)) := by
  rcases h.2 with ⟨e', _⟩ | ⟨g, cap, cur, e1, e2, e3, e4⟩
  · rw [e'] at hk; cases hk
  · rw [e1] at hk
    simp only [Value.ownBlock, Option.some.injEq] at hk
    subst hk
    exact ⟨_, e3⟩
theorem ty_ne {w : World} {a b : Nat} {x y : Array Value} {s t : TypeId} (ha : w.heap[a]? = some (.cells x s (0, 0))) (hb : w.heap[b]? = some (.cells y t (0, 0))) (hst : s ≠ t) : a ≠ b := by
  rintro rfl
  rw [ha] at hb
  simp only [Option.some.injEq, Obj.cells.injEq] at hb
  exact hst hb.2.1
theorem row_ne {B B' : Nat} {w : World} {s t : TypeId} {m n p q : Nat} {u v : Value} {xs ys : List Value} (hu : w.ownsRow B s m u n xs) (hv : w.ownsRow B' t p v q ys) (hst : s ≠ t) {k : Nat} (hk : u.ownBlock = some k) : v.ownBlock ≠ some k := by
  intro e
  obtain ⟨x, hx⟩ := row_ty hu hk
  obtain ⟨y, hy⟩ := row_ty hv e
  exact ty_ne hx hy hst rfl
theorem row_head {B : Nat} {w : World} {s t : TypeId} {m n k : Nat} {u : Value} {xs : List Value} {x : Array Value} (hu : w.ownsRow B s m u n xs) (hk : w.heap[k]? = some (.cells x t (0, 0))) (hst : s ≠ t) : u.ownBlock ≠ some k := by
  intro e
  obtain ⟨y, hy⟩ := row_ty hu e
  exact ty_ne hy hk hst rfl
theorem grownBy_set (w : World) (b i : Nat) (v : Value) : w.grownBy (w.setCell ⟨b, i, none⟩ v) (some b) :=
  ⟨rfl, rfl, rfl, by simp, fun k _ hk => heap_setCell_other _ _ _ _ (fun e => hk (by simp [e]))⟩
theorem grownBy_alloc (w : World) (o : Obj) : w.grownBy (w.alloc o) none := ⟨rfl, rfl, rfl, by simp, fun k hk _ => Below.heap_alloc w o k hk⟩
theorem info34 : (Try.prog.info? 34).map (fun i => (i.zero, i.size, i.bytes)) = some (some (.agg #[.int .u8 0, .int .i64 0, .int .i64 0]), 3, 24) := by kernel_rfl

/-- Tokens as cells. -/
def rowT (T : List Tk) : List Value := T.flatMap fun t => [.int .u8 (t.1 : Nat), .int .i64 (t.2.1 : Nat), .int .i64 (t.2.2 : Nat)]
theorem rowT_app (a b : List Tk) : rowT (a ++ b) = rowT a ++ rowT b := by simp [rowT]
theorem rowT_one (t : Tk) : rowT [t] = [.int .u8 (t.1 : Nat), .int .i64 (t.2.1 : Nat), .int .i64 (t.2.2 : Nat)] := by simp [rowT]

/-- n bytes of a text, of blocks below B, and not in block R. -/
def Txt (B R n : Nat) (w0 : World) (v : Value) (f : Nat → Nat) : Prop :=
  ∃ a cap, v = .slice a n cap ∧ (0 < n → ∃ b off, a = some ⟨b, off, none⟩ ∧ n ≤ cap ∧ b < B ∧ b ≠ R ∧ ∀ j, j < n → w0.cell? ⟨b, off + j, none⟩ = some (.int .u8 (f j)))

/-- The reader at block R: at byte i, d open, the tokens T, in a row of blocks from B on; all else below B as in w0. -/
structure RS (B R n : Nat) (w0 : World) (v : Value) (f : Nat → Nat) (w : World) (tv : Value) (i d : Nat) (T : List Tk) : Prop where
  hn : n ≤ 100000
  hf : ∀ j, f j < 256
  hR : R < B
  bs : B ≤ w.heap.size
  hi : i ≤ n
  hd : d ≤ 512
  head : w.heap[R]? = some (.cells #[v, .int .i64 (i : Nat), .int .i64 (d : Nat), tv] 41 (0, 0))
  row : w.ownsRow B 34 3 tv T.length (rowT T)
  len : T.length ≤ i
  os : w.os = w0.os
  tape : w.tape = w0.tape
  output : w.output = w0.output
  sz : w0.heap.size ≤ w.heap.size
  block : ∀ k, k < B → k ≠ R → w.heap[k]? = w0.heap[k]?
  txt : Txt B R n w0 v f
def Rd (B R n : Nat) (w0 : World) (v : Value) (f : Nat → Nat) (w : World) (i d : Nat) (T : List Tk) : Prop := ∃ tv, RS B R n w0 v f w tv i d T
/-- Somewhere, behind an error. -/
def Rx (B R n : Nat) (w0 : World) (v : Value) (f : Nat → Nat) (w : World) (i : Nat) : Prop := ∃ d T, Rd B R n w0 v f w i d T

section
variable {B R n : Nat} {w0 : World} {v : Value} {f : Nat → Nat} {w w' : World} {tv : Value} {i d : Nat} {T : List Tk}
theorem Rd.x (h : Rd B R n w0 v f w i d T) : Rx B R n w0 v f w i := ⟨_, _, h⟩
theorem RS.lt (h : RS B R n w0 v f w tv i d T) : R < w.heap.size := (Array.getElem?_eq_some_iff.1 h.head).1
theorem RS.c0 (h : RS B R n w0 v f w tv i d T) : w.cell? ⟨R, 0, none⟩ = some v := by simp [World.cell?, h.head]
theorem RS.c1 (h : RS B R n w0 v f w tv i d T) : w.cell? ⟨R, 1, none⟩ = some (.int .i64 (i : Nat)) := by simp [World.cell?, h.head]
theorem RS.c2 (h : RS B R n w0 v f w tv i d T) : w.cell? ⟨R, 2, none⟩ = some (.int .i64 (d : Nat)) := by simp [World.cell?, h.head]
theorem RS.c3 (h : RS B R n w0 v f w tv i d T) : w.cell? ⟨R, 3, none⟩ = some tv := by simp [World.cell?, h.head]
theorem RS.free (h : RS B R n w0 v f w tv i d T) (j : Nat) : w.frozen? ⟨R, j, none⟩ = false := frozen_of_row w R j _ 41 h.head
/-- The byte at hand. -/
theorem RS.byte (h : RS B R n w0 v f w tv i d T) {j : Nat} (hj : j < n) : ∃ b off cap, v = .slice (some ⟨b, off, none⟩) n cap ∧ n ≤ cap ∧ w.cell? ⟨b, off + j, none⟩ = some (.int .u8 (f j)) := by
  obtain ⟨a, cap, rfl, ht⟩ := h.txt
  obtain ⟨b, off, rfl, hc, hb, hbR, hcell⟩ := ht (by omega)
  exact ⟨b, off, cap, rfl, hc, (World.cell?_of_block (w := w0) (h.block b hb hbR)).trans (hcell j hj)⟩
theorem RS.val (h : RS B R n w0 v f w tv i d T) : ∃ a cap, v = .slice a n cap := by
  obtain ⟨a, cap, rfl, _⟩ := h.txt
  exact ⟨_, _, rfl⟩
theorem RS.grown (h : RS B R n w0 v f w tv i d T) (hg : w.grownBy w' none) : RS B R n w0 v f w' tv i d T where
  hn := h.hn
  hf := h.hf
  hR := h.hR
  bs := Nat.le_trans h.bs hg.size
  hi := h.hi
  hd := h.hd
  head := (hg.block R h.lt (by simp)).trans h.head
  row := row_same h.row (fun k hk => hg.block k (h.row.lt k hk).2 (by simp))
  len := h.len
  os := hg.os.trans h.os
  tape := hg.tape.trans h.tape
  output := hg.output.trans h.output
  sz := Nat.le_trans h.sz hg.size
  block := fun k hk hR => (hg.block k (Nat.lt_of_lt_of_le hk h.bs) (by simp)).trans (h.block k hk hR)
  txt := h.txt
theorem grown_dN (w : World) (q : Nat) : w.grownBy (w.drewN q) none := ⟨rfl, rfl, rfl, Nat.le_refl _, fun _ _ _ => rfl⟩
theorem grown_d (w : World) : w.grownBy w.drew none := ⟨rfl, rfl, rfl, Nat.le_refl _, fun _ _ _ => rfl⟩
theorem RS.drewN (h : RS B R n w0 v f w tv i d T) (q : Nat) : RS B R n w0 v f (w.drewN q) tv i d T := h.grown (grown_dN w q)
theorem RS.drew (h : RS B R n w0 v f w tv i d T) : RS B R n w0 v f w.drew tv i d T := h.grown (grown_d w)
theorem RS.own (h : RS B R n w0 v f w tv i d T) : tv.ownBlock ≠ some R := row_head h.row h.head (by decide)
/-- The reader's own cells have changed. -/
theorem RS.store (h : RS B R n w0 v f w tv i d T) {c : Nat} {u : Value} {i' d' : Nat} (hi : i' ≤ n) (hii : i ≤ i') (hd : d' ≤ 512) (hc : #[v, .int .i64 (i : Nat), .int .i64 (d : Nat), tv].set! c u = #[v, .int .i64 (i' : Nat), .int .i64 (d' : Nat), tv]) :
    RS B R n w0 v f (w.setCell ⟨R, c, none⟩ u) tv i' d' T where
  hn := h.hn
  hf := h.hf
  hR := h.hR
  bs := by simpa using h.bs
  hi := hi
  hd := hd
  head := by rw [← hc]; exact heap_setCell_same w R c _ 41 u h.head
  row := row_same h.row (fun k hk => heap_setCell_other _ _ _ _ (fun e => h.own (by rw [hk, e])))
  len := Nat.le_trans h.len hii
  os := h.os
  tape := h.tape
  output := h.output
  sz := by simpa using h.sz
  block := fun k hk hR => (heap_setCell_other _ _ _ _ (fun e => hR e)).trans (h.block k hk hR)
  txt := h.txt
theorem RS.at' (h : RS B R n w0 v f w tv i d T) {i' : Nat} (hi : i' ≤ n) (hii : i ≤ i') : RS B R n w0 v f (w.setCell ⟨R, 1, none⟩ (.int .i64 (i' : Nat))) tv i' d T := h.store hi hii h.hd (by simp)
theorem RS.deep (h : RS B R n w0 v f w tv i d T) {d' : Nat} (hd : d' ≤ 512) : RS B R n w0 v f (w.setCell ⟨R, 2, none⟩ (.int .i64 (d' : Nat))) tv i d' T := h.store h.hi (Nat.le_refl _) hd (by simp)
/-- A token more. -/
theorem RS.push (h : RS B R n w0 v f w tv i d T) {w3 : World} {v' : Value} {t : Tk} (hl : T.length < i) (hr : w3.ownsRow B 34 3 v' (T.length + 1) (rowT T ++ rowT [t])) (hg : w.grownBy w3 tv.ownBlock) :
    RS B R n w0 v f (w3.setCell ⟨R, 3, none⟩ v') v' i d (T ++ [t]) where
  hn := h.hn
  hf := h.hf
  hR := h.hR
  bs := by simpa using Nat.le_trans h.bs hg.size
  hi := h.hi
  hd := h.hd
  head := by
    have hh3 := (hg.block R h.lt (fun e => h.own e.symm)).trans h.head
    have := heap_setCell_same w3 R 3 _ 41 v' hh3
    simpa using this
  row := by
    have hh3 := (hg.block R h.lt (fun e => h.own e.symm)).trans h.head
    have n2 := row_head hr hh3 (by decide)
    rw [List.length_append, List.length_singleton, rowT_app]
    exact row_same hr (fun k hk => heap_setCell_other _ _ _ _ (fun e => n2 (by rw [hk, e])))
  len := by simp; omega
  os := hg.os.trans h.os
  tape := hg.tape.trans h.tape
  output := hg.output.trans h.output
  sz := by simpa using Nat.le_trans h.sz hg.size
  block := fun k hk hR => ((heap_setCell_other _ _ _ _ (fun e => hR e)).trans (hg.block k (Nat.lt_of_lt_of_le hk h.bs) (fun e => by have := (h.row.lt k e.symm).1; omega))).trans (h.block k hk hR)
  txt := h.txt
end

/-! strings.IndexByte. -/
set_option maxHeartbeats 1000000 in
theorem idx_lite (s : ByteArray) (c : Int) (w : World) :
    Calls Try.prog 36 #[.string s, .int .u8 c] w fun e w' => e = .returned (.int .i64 (Lib.indexByte s.data.toList c.toNat.toUInt8)) ∧ w' = w := by
  go_enter Try.func36, Try.ntmps36
  go_wp2
  rw [run_callFunc_extern Try.func37 (by kernel_rfl) (by kernel_rfl) (by kernel_rfl) (e := Extern.BytealgIndexByte.indexByte) (by kernel_rfl), Lib.run_indexByteString]
  simp only [Result.andThen]
  rw [Oper.upon_value]
  go_wp2
  go_ret
  exact ⟨rfl, rfl⟩
theorem idx_any (s : ByteArray) (c : Int) (w : World) :
    Calls Try.prog 30 #[.string s, .int .u8 c] w fun e w' => e = .returned (.int .i64 (Lib.indexByte s.data.toList c.toNat.toUInt8)) ∧ w' = w := by
  go_enter Try.func30, Try.ntmps30
  go_wp2_with fail
  refine (idx_lite _ _ _).mono ?_
  rintro e w' ⟨rfl, rfl⟩
  go_wp2
  go_ret
  exact ⟨rfl, rfl⟩
/-- Is a byte one of some? -/
def has (s : ByteArray) (c : Nat) : Bool := decide (0 ≤ Lib.indexByte s.data.toList ((c : Int).toNat.toUInt8))
theorem has_blank : ∀ c, c < 256 → has ⟨#[32, 9, 10, 13]⟩ c = isB c := by decide +kernel
theorem has_q3 : ∀ c, c < 256 → has ⟨#[39, 96, 44]⟩ c = (decide (c = 39) || decide (c = 96) || decide (c = 44)) := by decide +kernel
theorem has_q2 : ∀ c, c < 256 → has ⟨#[39, 96]⟩ c = (decide (c = 39) || decide (c = 96)) := by decide +kernel
theorem has_part : ∀ c, c < 256 → (decide (32 < c) && !has ⟨#[40, 41, 34, 39, 96, 44, 59, 127]⟩ c) = isP c := by decide +kernel
theorem idx_one (b x : UInt8) : 0 ≤ Lib.indexByte [b] x ↔ b = x := by
  simp only [Lib.indexByte]
  by_cases h : b = x
  · simp [h]
  · simp [h]
theorem idx_two (b1 b2 x : UInt8) : 0 ≤ Lib.indexByte [b1, b2] x ↔ b1 = x ∨ b2 = x := by
  simp only [Lib.indexByte]
  by_cases h1 : b1 = x
  · simp [h1]
  · by_cases h2 : b2 = x
    · simp [h1, h2]
    · simp [h1, h2]
theorem u8_is {c : Nat} (hc : c < 256) (b : UInt8) : b = (c : Int).toNat.toUInt8 ↔ c = b.toNat := by
  have e : ((c : Int).toNat.toUInt8).toNat = c := by simp; omega
  rw [← UInt8.toNat_inj, e]; exact eq_comm
theorem has_one (b : UInt8) (c : Nat) (hc : c < 256) : has ⟨#[b]⟩ c = decide (c = b.toNat) := by
  unfold has
  exact decide_eq_decide.2 ((idx_one b _).trans (u8_is hc b))
theorem has_two (b1 b2 : UInt8) (c : Nat) (hc : c < 256) : has ⟨#[b1, b2]⟩ c = (decide (c = b1.toNat) || decide (c = b2.toNat)) := by
  unfold has
  rw [← Bool.decide_or]
  exact decide_eq_decide.2 ((idx_two b1 b2 _).trans (or_congr (u8_is hc b1) (u8_is hc b2)))
end Go.Proofs.PlatenSexp
