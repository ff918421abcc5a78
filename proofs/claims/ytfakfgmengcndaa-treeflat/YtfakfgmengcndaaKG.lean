/- A reader of S-expressions in memory; what strings.IndexByte comes to. -/
import Derived.Test.YtfakfgmengcndaaProg
import Derived.Test.YtfakfgmengcndaaKA
import Derived.WalkKit
import Derived.WalkLawsBesides
import Derived.Lib.Bytealg
import Derived.Lib.AppendZeros
import Derived.Deep.RegionHeld3
import Derived.Deep.QuietTactic
import Derived.BigQuiet
import Derived.Tactics
import Derived.Tactics2
import Derived.Defers
import Derived.Recover
import Derived.Laws.Pointers
namespace Go.Proofs.PlatenSexp
open Go Go.RowKit
set_option linter.unusedVariables false
set_option maxRecDepth 100000

theorem hidden {p : Prop} (h : p) : Hid p := h

/-! An append to a row of one's own, and where the row is behind it. -/
section
variable {P : Program}
theorem run_append_at (w : World) (base : Nat) (t ty e : TypeId) (i : TypeInfo) (z : Value) (size bytes : Nat) (ht : P.underlying t = some (.slice e)) (hi : P.info? e = some i) (hz : i.zero = some z)
    (hsize : i.size = size) (hby : i.bytes = bytes) (hzs : z.cells.size = size) (hsz : 0 < size)
    (v : Value) (n : Nat) (xs : List Value) (hown : w.ownsRow base e size v n xs)
    (a : Addr) (m c : Nat) (news : List Value) (hl : news.length = m * size) (hnews : ∀ j u, news[j]? = some u → w.cell? (a.add j) = some u) (h1 : ∀ u ∈ news, u.oneCell' = true)
    (h63 : n + m ≤ maxLen) (hbytes : (n + m) * bytes ≤ 140737488355328) (hbase : base ≤ w.heap.size) (hm : 0 < m) :
    ∃ v' w', (Builtin.append_ #[t, t] ty #[v, .slice (some a) m c]).run P w = .ok v' w' ∧ w'.ownsRow base e size v' (n + m) (xs ++ news) ∧ w.grownBy w' v.ownBlock ∧
      (v'.ownBlock = v.ownBlock ∨ v'.ownBlock = some w.heap.size) := by
  obtain ⟨v', w', hr, h2, h3, _⟩ := run_append_own (P := P) w base t ty e i z size bytes ht hi hz hsize hby hzs hsz v n xs hown a m c news hl hnews h1 h63 hbytes hbase
  refine ⟨v', w', hr, h2, h3, ?_⟩
  subst hsize
  subst hby
  have hsmall : n + m ≤ 9223372036854775807 := by simp only [maxLen] at h63; omega
  rcases hown.2 with ⟨rfl, rfl⟩ | ⟨g, cap, cur, rfl, hbg, hg, hnc, hcm, hcs, htake⟩
  · have hr2 := run_append_nil (P := P) w t ty e i z ht hi hz a m c news hl hnews (by omega) (by omega) (by have hb := hbytes; simp only [Nat.zero_add] at hb; omega)
    rw [hr] at hr2
    injection hr2 with e1 e2
    right
    rw [e1]
    rfl
  · by_cases hroom : n + m ≤ cap
    · have hfit : n * i.size + news.length ≤ cur.size := by rw [hl, hcs, ← Nat.add_mul]; exact Nat.mul_le_mul_right _ hroom
      have hr2 := run_append_room (P := P) w t ty e i ht hi g n cap cur hg a m c news hl hnews h1 hroom hfit
      rw [hr] at hr2
      injection hr2 with e1 e2
      left
      rw [e1]
      rfl
    · have holds : ∀ j u, xs[j]? = some u → w.cell? ((⟨g, 0, none⟩ : Addr).add j) = some u := hown.cells (g := g) rfl
      have hr2 := run_append_grow (P := P) w t ty e i z ht hi hz ⟨g, 0, none⟩ n cap xs hown.1 holds a m c news hl hnews (by omega) (by omega) (growslice_fits (by omega) hbytes)
      rw [hr] at hr2
      injection hr2 with e1 e2
      right
      rw [e1]
      rfl
theorem wpList_append_at (w : World) {ops : Array Oper} {rest : List Oper} {o : Oper} {a : Act} {Q : Exit → Act → World → Prop} (hgd : o.guard = none) (s x : Operand) (t : TypeId)
    (ho : o.op = .call { callee := .builtin .append, args := #[s, x], argTypes := #[t, t] })
    (base : Nat) (e : TypeId) (i : TypeInfo) (z : Value) (size bytes : Nat) (ht : P.underlying t = some (.slice e)) (hi : P.info? e = some i) (hz : i.zero = some z)
    (hsize : i.size = size) (hby : i.bytes = bytes) (hzs : z.cells.size = size) (hsz : 0 < size)
    (v : Value) (n : Nat) (xs : List Value) (hs : a.eval s = v) (hown : w.ownsRow base e size v n xs)
    (ad : Addr) (m c : Nat) (news : List Value) (hx : a.eval x = .slice (some ad) m c) (hl : news.length = m * size) (hnews : ∀ j u, news[j]? = some u → w.cell? (ad.add j) = some u) (h1 : ∀ u ∈ news, u.oneCell' = true)
    (h63 : n + m ≤ maxLen) (hbytes : (n + m) * bytes ≤ 140737488355328) (hbase : base ≤ w.heap.size) (hm : 0 < m)
    (h : ∀ v' w', w'.ownsRow base e size v' (n + m) (xs ++ news) → w.grownBy w' v.ownBlock → (v'.ownBlock = v.ownBlock ∨ v'.ownBlock = some w.heap.size) → wpList P ops Q rest (a.put o.dst v') w') : wpList P ops Q (o :: rest) a w := by
  obtain ⟨v', w', hr, h2, h3, h4⟩ := run_append_at (P := P) w base t o.type e i z size bytes ht hi hz hsize hby hzs hsz v n xs hown ad m c news hl hnews h1 h63 hbytes hbase hm
  exact Lib.wpList_append_run w hgd s x t t ho _ _ hs hx _ _ hr (h v' w' h2 h3 h4)
end
theorem row_same {B : Nat} {w w' : World} {e : TypeId} {s n : Nat} {v : Value} {xs : List Value} (h : w.ownsRow B e s v n xs) (hb : ∀ k, v.ownBlock = some k → w'.heap[k]? = w.heap[k]?) : w'.ownsRow B e s v n xs := by
  obtain ⟨h0, h1⟩ := h
  refine ⟨h0, ?_⟩
  rcases h1 with h1 | ⟨g, cap, cur, e1, e2, e3, e4⟩
  · exact Or.inl h1
  · exact Or.inr ⟨g, cap, cur, e1, e2, (hb g (by rw [e1]; rfl)).trans e3, e4⟩
theorem row_ty {B : Nat} {w : World} {e : TypeId} {s n : Nat} {v : Value} {xs : List Value} (h : w.ownsRow B e s v n xs) {k : Nat} (hk : v.ownBlock = some k) : ∃ c, w.heap[k]? = some (.cells c e (0, 0)) := by
  rcases h.2 with ⟨e', _⟩ | ⟨g, cap, cur, e1, e2, e3, e4⟩
  · rw [e'] at hk; cases hk
  · rw [e1] at hk
    simp only [Value.ownBlock, Option.some.injEq] at hk
    subst hk
    exact ⟨_, e3⟩
theorem ty_ne {w : World} {a b : Nat} {x y : Array Value} {s t : TypeId} (ha : w.heap[a]? = some (.cells x s (0, 0))) (hb : w.heap[b]? = some (.cells y t (0, 0))) (hst : s ≠ t) : a ≠ b := by
  rintro rfl
  rw [ha] at hb
  simp only [Option.some.injEq, Obj.cells.injEq] at hb
  exact hst hb.2.1
theorem row_ne {B B' : Nat} {w : World} {s t : TypeId} {m n p q : Nat} {u v : Value} {xs ys : List Value} (hu : w.ownsRow B s m u n xs) (hv : w.ownsRow B' t p v q ys) (hst : s ≠ t) {k : Nat} (hk : u.ownBlock = some k) : v.ownBlock ≠ some k := by
  intro e
  obtain ⟨x, hx⟩ := row_ty hu hk
  obtain ⟨y, hy⟩ := row_ty hv e
  exact ty_ne hx hy hst rfl
theorem row_head {B : Nat} {w : World} {s t : TypeId} {m n k : Nat} {u : Value} {xs : List Value} {x : Array Value} (hu : w.ownsRow B s m u n xs) (hk : w.heap[k]? = some (.cells x t (0, 0))) (hst : s ≠ t) : u.ownBlock ≠ some k := by
  intro e
  obtain ⟨y, hy⟩ := row_ty hu e
  exact ty_ne hy hk hst rfl
theorem grownBy_set (w : World) (b i : Nat) (v : Value) : w.grownBy (w.setCell ⟨b, i, none⟩ v) (some b) :=
  ⟨rfl, rfl, rfl, by simp, fun k _ hk => heap_setCell_other _ _ _ _ (fun e => hk (by simp [e]))⟩
theorem grownBy_alloc (w : World) (o : Obj) : w.grownBy (w.alloc o) none := ⟨rfl, rfl, rfl, by simp, fun k hk _ => Below.heap_alloc w o k hk⟩
theorem info34 : (Try.prog.info? 47).map (fun i => (i.zero, i.size, i.bytes)) = some (some (.agg #[.int .u8 0, .int .i64 0, .int .i64 0]), 3, 24) := by kernel_rfl

/-- Tokens as cells. -/
def rowT (T : List Tk) : List Value := T.flatMap fun t => [.int .u8 (t.1 : Nat), .int .i64 (t.2.1 : Nat), .int .i64 (t.2.2 : Nat)]
theorem rowT_app (a b : List Tk) : rowT (a ++ b) = rowT a ++ rowT b := by simp [rowT]
theorem rowT_one (t : Tk) : rowT [t] = [.int .u8 (t.1 : Nat), .int .i64 (t.2.1 : Nat), .int .i64 (t.2.2 : Nat)] := by simp [rowT]

/-- n bytes of a text, of blocks below B, and not in block R. -/
def Txt (B R n : Nat) (w0 : World) (v : Value) (f : Nat → Nat) : Prop :=
  ∃ a cap, v = .slice a n cap ∧ (0 < n → ∃ b off, a = some ⟨b, off, none⟩ ∧ n ≤ cap ∧ b < B ∧ b ≠ R ∧ ∀ j, j < n → w0.cell? ⟨b, off + j, none⟩ = some (.int .u8 (f j)))

/-- The reader at block R: at byte i, d open, the tokens T, in a row of blocks from B on; all else below B as in w0. -/
structure RS (B R n : Nat) (w0 : World) (v : Value) (f : Nat → Nat) (w : World) (tv : Value) (i d : Nat) (T : List Tk) : Prop where
  hn : n ≤ 100000
  hf : ∀ j, f j < 256
  hR : R < B
  bs : B ≤ w.heap.size
  hi : i ≤ n
  hd : d ≤ 512
  head : w.heap[R]? = some (.cells #[v, .int .i64 (i : Nat), .int .i64 (d : Nat), tv] 66 (0, 0))
  row : w.ownsRow B 47 3 tv T.length (rowT T)
  len : T.length ≤ i
  os : w.os = w0.os
  tape : w.tape = w0.tape
  output : w.output = w0.output
  sz : w0.heap.size ≤ w.heap.size
  block : ∀ k, k < B → k ≠ R → w.heap[k]? = w0.heap[k]?
  txt : Txt B R n w0 v f
def Rd (B R n : Nat) (w0 : World) (v : Value) (f : Nat → Nat) (w : World) (i d : Nat) (T : List Tk) : Prop := ∃ tv, RS B R n w0 v f w tv i d T
/-- Somewhere, behind an error. -/
def Rx (B R n : Nat) (w0 : World) (v : Value) (f : Nat → Nat) (w : World) (i : Nat) : Prop := ∃ d T, Rd B R n w0 v f w i d T

section
variable {B R n : Nat} {w0 : World} {v : Value} {f : Nat → Nat} {w w' : World} {tv : Value} {i d : Nat} {T : List Tk}
theorem Rd.x (h : Rd B R n w0 v f w i d T) : Rx B R n w0 v f w i := ⟨_, _, h⟩
theorem RS.lt (h : RS B R n w0 v f w tv i d T) : R < w.heap.size := (Array.getElem?_eq_some_iff.1 h.head).1
theorem RS.c0 (h : RS B R n w0 v f w tv i d T) : w.cell? ⟨R, 0, none⟩ = some v := by simp [World.cell?, h.head]
theorem RS.c1 (h : RS B R n w0 v f w tv i d T) : w.cell? ⟨R, 1, none⟩ = some (.int .i64 (i : Nat)) := by simp [World.cell?, h.head]
theorem RS.c2 (h : RS B R n w0 v f w tv i d T) : w.cell? ⟨R, 2, none⟩ = some (.int .i64 (d : Nat)) := by simp [World.cell?, h.head]
theorem RS.c3 (h : RS B R n w0 v f w tv i d T) : w.cell? ⟨R, 3, none⟩ = some tv := by simp [World.cell?, h.head]
theorem RS.free (h : RS B R n w0 v f w tv i d T) (j : Nat) : w.frozen? ⟨R, j, none⟩ = false := frozen_of_row w R j _ 66 h.head
/-- The byte at hand. -/
theorem RS.byte (h : RS B R n w0 v f w tv i d T) {j : Nat} (hj : j < n) : ∃ b off cap, v = .slice (some ⟨b, off, none⟩) n cap ∧ n ≤ cap ∧ w.cell? ⟨b, off + j, none⟩ = some (.int .u8 (f j)) := by
  obtain ⟨a, cap, rfl, ht⟩ := h.txt
  obtain ⟨b, off, rfl, hc, hb, hbR, hcell⟩ := ht (by omega)
  exact ⟨b, off, cap, rfl, hc, (World.cell?_of_block (w := w0) (h.block b hb hbR)).trans (hcell j hj)⟩
theorem RS.val (h : RS B R n w0 v f w tv i d T) : ∃ a cap, v = .slice a n cap := by
  obtain ⟨a, cap, rfl, _⟩ := h.txt
  exact ⟨_, _, rfl⟩
theorem RS.grown (h : RS B R n w0 v f w tv i d T) (hg : w.grownBy w' none) : RS B R n w0 v f w' tv i d T where
  hn := h.hn
  hf := h.hf
  hR := h.hR
  bs := Nat.le_trans h.bs hg.size
  hi := h.hi
  hd := h.hd
  head := (hg.block R h.lt (by simp)).trans h.head
  row := row_same h.row (fun k hk => hg.block k (h.row.lt k hk).2 (by simp))
  len := h.len
  os := hg.os.trans h.os
  tape := hg.tape.trans h.tape
  output := hg.output.trans h.output
  sz := Nat.le_trans h.sz hg.size
  block := fun k hk hR => (hg.block k (Nat.lt_of_lt_of_le hk h.bs) (by simp)).trans (h.block k hk hR)
  txt := h.txt
theorem grown_dN (w : World) (q : Nat) : w.grownBy (w.drewN q) none := ⟨rfl, rfl, rfl, Nat.le_refl _, fun _ _ _ => rfl⟩
theorem grown_d (w : World) : w.grownBy w.drew none := ⟨rfl, rfl, rfl, Nat.le_refl _, fun _ _ _ => rfl⟩
theorem RS.drewN (h : RS B R n w0 v f w tv i d T) (q : Nat) : RS B R n w0 v f (w.drewN q) tv i d T := h.grown (grown_dN w q)
theorem RS.drew (h : RS B R n w0 v f w tv i d T) : RS B R n w0 v f w.drew tv i d T := h.grown (grown_d w)
theorem RS.own (h : RS B R n w0 v f w tv i d T) : tv.ownBlock ≠ some R := row_head h.row h.head (by decide)
/-- The reader's own cells have changed. -/
theorem RS.store (h : RS B R n w0 v f w tv i d T) {c : Nat} {u : Value} {i' d' : Nat} (hi : i' ≤ n) (hii : i ≤ i') (hd : d' ≤ 512) (hc : #[v, .int .i64 (i : Nat), .int .i64 (d : Nat), tv].set! c u = #[v, .int .i64 (i' : Nat), .int .i64 (d' : Nat), tv]) :
    RS B R n w0 v f (w.setCell ⟨R, c, none⟩ u) tv i' d' T where
  hn := h.hn
  hf := h.hf
  hR := h.hR
  bs := by simpa using h.bs
  hi := hi
  hd := hd
  head := by rw [← hc]; exact heap_setCell_same w R c _ 66 u h.head
  row := row_same h.row (fun k hk => heap_setCell_other _ _ _ _ (fun e => h.own (by rw [hk, e])))
  len := Nat.le_trans h.len hii
  os := h.os
  tape := h.tape
  output := h.output
  sz := by simpa using h.sz
  block := fun k hk hR => (heap_setCell_other _ _ _ _ (fun e => hR e)).trans (h.block k hk hR)
  txt := h.txt
theorem RS.at' (h : RS B R n w0 v f w tv i d T) {i' : Nat} (hi : i' ≤ n) (hii : i ≤ i') : RS B R n w0 v f (w.setCell ⟨R, 1, none⟩ (.int .i64 (i' : Nat))) tv i' d T := h.store hi hii h.hd (by simp)
theorem RS.deep (h : RS B R n w0 v f w tv i d T) {d' : Nat} (hd : d' ≤ 512) : RS B R n w0 v f (w.setCell ⟨R, 2, none⟩ (.int .i64 (d' : Nat))) tv i d' T := h.store h.hi (Nat.le_refl _) hd (by simp)
/-- A token more. -/
theorem RS.push (h : RS B R n w0 v f w tv i d T) {w3 : World} {v' : Value} {t : Tk} (hl : T.length < i) (hr : w3.ownsRow B 47 3 v' (T.length + 1) (rowT T ++ rowT [t])) (hg : w.grownBy w3 tv.ownBlock) :
    RS B R n w0 v f (w3.setCell ⟨R, 3, none⟩ v') v' i d (T ++ [t]) where
  hn := h.hn
  hf := h.hf
  hR := h.hR
  bs := by simpa using Nat.le_trans h.bs hg.size
  hi := h.hi
  hd := h.hd
  head := by
    have hh3 := (hg.block R h.lt (fun e => h.own e.symm)).trans h.head
    have := heap_setCell_same w3 R 3 _ 66 v' hh3
    simpa using this
  row := by
    have hh3 := (hg.block R h.lt (fun e => h.own e.symm)).trans h.head
    have n2 := row_head hr hh3 (by decide)
    rw [List.length_append, List.length_singleton, rowT_app]
    exact row_same hr (fun k hk => heap_setCell_other _ _ _ _ (fun e => n2 (by rw [hk, e])))
  len := by simp; omega
  os := hg.os.trans h.os
  tape := hg.tape.trans h.tape
  output := hg.output.trans h.output
  sz := by simpa using Nat.le_trans h.sz hg.size
  block := fun k hk hR => ((heap_setCell_other _ _ _ _ (fun e => hR e)).trans (hg.block k (Nat.lt_of_lt_of_le hk h.bs) (fun e => by have := (h.row.lt k e.symm).1; omega))).trans (h.block k hk hR)
  txt := h.txt
end

/-! strings.IndexByte. -/
set_option maxHeartbeats 1000000 in
theorem idx_lite (s : ByteArray) (c : Int) (w : World) :
    Calls Try.prog 96 #[.string s, .int .u8 c] w fun e w' => e = .returned (.int .i64 (Lib.indexByte s.data.toList c.toNat.toUInt8)) ∧ w' = w := by
  go_enter Try.func96, Try.ntmps96
  go_wp2
  rw [run_callFunc_extern Try.func100 (by kernel_rfl) (by kernel_rfl) (by kernel_rfl) (e := Extern.BytealgIndexByte.indexByte) (by kernel_rfl), Lib.run_indexByteString]
  simp only [Result.andThen]
  rw [Oper.upon_value]
  go_wp2
  go_ret
  exact ⟨rfl, rfl⟩
theorem idx_any (s : ByteArray) (c : Int) (w : World) :
    Calls Try.prog 78 #[.string s, .int .u8 c] w fun e w' => e = .returned (.int .i64 (Lib.indexByte s.data.toList c.toNat.toUInt8)) ∧ w' = w := by
  go_enter Try.func78, Try.ntmps78
  go_wp2_with fail
  refine (idx_lite _ _ _).mono ?_
  rintro e w' ⟨rfl, rfl⟩
  go_wp2
  go_ret
  exact ⟨rfl, rfl⟩
/-- Is a byte one of some? -/
def has (s : ByteArray) (c : Nat) : Bool := decide (0 ≤ Lib.indexByte s.data.toList ((c : Int).toNat.toUInt8))
theorem has_blank : ∀ c, c < 256 → has ⟨#[32, 9, 10, 13]⟩ c = isB c := by decide +kernel
theorem has_q3 : ∀ c, c < 256 → has ⟨#[39, 96, 44]⟩ c = (decide (c = 39) || decide (c = 96) || decide (c = 44)) := by decide +kernel
theorem has_q2 : ∀ c, c < 256 → has ⟨#[39, 96]⟩ c = (decide (c = 39) || decide (c = 96)) := by decide +kernel
theorem has_part : ∀ c, c < 256 → (decide (32 < c) && !has ⟨#[40, 41, 34, 39, 96, 44, 59, 127]⟩ c) = isP c := by decide +kernel
theorem idx_one (b x : UInt8) : 0 ≤ Lib.indexByte [b] x ↔ b = x := by
  simp only [Lib.indexByte]
  by_cases h : b = x
  · simp [h]
  · simp [h]
theorem idx_two (b1 b2 x : UInt8) : 0 ≤ Lib.indexByte [b1, b2] x ↔ b1 = x ∨ b2 = x := by
  simp only [Lib.indexByte]
  by_cases h1 : b1 = x
  · simp [h1]
  · by_cases h2 : b2 = x
    · simp [h1, h2]
    · simp [h1, h2]
theorem u8_is {c : Nat} (hc : c < 256) (b : UInt8) : b = (c : Int).toNat.toUInt8 ↔ c = b.toNat := by
  have e : ((c : Int).toNat.toUInt8).toNat = c := by simp; omega
  rw [← UInt8.toNat_inj, e]; exact eq_comm
theorem has_one (b : UInt8) (c : Nat) (hc : c < 256) : has ⟨#[b]⟩ c = decide (c = b.toNat) := by
  unfold has
  exact decide_eq_decide.2 ((idx_one b _).trans (u8_is hc b))
theorem has_two (b1 b2 : UInt8) (c : Nat) (hc : c < 256) : has ⟨#[b1, b2]⟩ c = (decide (c = b1.toNat) || decide (c = b2.toNat)) := by
  unfold has
  rw [← Bool.decide_or]
  exact decide_eq_decide.2 ((idx_two b1 b2 _).trans (or_congr (u8_is hc b1) (u8_is hc b2)))
end Go.Proofs.PlatenSexp

/- What sees, take, fail, need, skip, within of the reader come to. -/
namespace Go.Proofs.PlatenSexp
open Go Go.RowKit
set_option linter.unusedVariables false
set_option maxRecDepth 100000
variable {B R n : Nat} {w0 : World} {v : Value} {f : Nat → Nat} {w : World} {i d : Nat} {T : List Tk}

/-- Is the next byte one of some? -/
def see (f : Nat → Nat) (n i : Nat) (s : ByteArray) : Bool := decide (i < n) && has s (f i)

set_option maxHeartbeats 1000000 in
theorem sees_q {tv : Value} (h : RS B R n w0 v f w tv i d T) (s : ByteArray) :
    Calls Try.prog 53 #[.pointer (some ⟨R, 0, none⟩), .string s] w fun e w' => e = .returned (.bool (see f n i s)) ∧ ∃ m, w' = w.drewN m := by
  have c0 := h.c0
  have c1 := h.c1
  by_cases hi : i < n
  · obtain ⟨b, off, cap, rfl, hcap, g⟩ := h.byte hi
    have hlz : (i : Int) < (n : Int) := by omega
    have Hs : Hid (see f n i s = decide (0 ≤ Lib.indexByte s.data.toList ((f i : Nat) : Int).toNat.toUInt8)) := by
      unfold see has Hid; simp [hi]
    clear h
    go_enter Try.func53, Try.ntmps53
    go_wp2_with fail
    go_quiet ((go_at_call 78; exact Calls.quiet_of_same (idx_any _ _ _)))
    go_wp2
    go_ret
    exact ⟨by rw [Hs.out]; simp, _, rfl⟩
  · obtain ⟨a, cap, rfl⟩ := h.val
    have hlz : ¬ ((i : Int) < (n : Int)) := by omega
    have Hs : Hid (see f n i s = false) := by
      unfold see Hid; simp [hi]
    clear h
    go_enter Try.func53, Try.ntmps53
    go_wp2_with fail
    go_quiet (fail)
    go_wp2
    go_ret
    exact ⟨by rw [Hs.out]; simp, _, rfl⟩

theorem sees_any (h : Rd B R n w0 v f w i d T) (s : ByteArray) :
    Calls Try.prog 53 #[.pointer (some ⟨R, 0, none⟩), .string s] w fun e w' => e = .returned (.bool (see f n i s)) ∧ Rd B R n w0 v f w' i d T := by
  obtain ⟨tv, h⟩ := h
  refine (sees_q h s).mono ?_
  rintro e w' ⟨rfl, m, rfl⟩
  exact ⟨rfl, _, h.drewN _⟩

set_option maxHeartbeats 1000000 in
theorem take_yes (h : Rd B R n w0 v f w i d T) (s : ByteArray) (hs : see f n i s = true) :
    Calls Try.prog 52 #[.pointer (some ⟨R, 0, none⟩), .string s] w fun e w' => e = .returned (.bool true) ∧ Rd B R n w0 v f w' (i + 1) d T := by
  have cs := sees_any h s
  rw [hs] at cs
  have hi : i < n := by unfold see at hs; simp at hs; exact hs.1
  have Hi := hidden hi
  have hn := h.choose_spec.hn
  have hb : i ≤ 100000 := by omega
  clear h hs hn hi
  go_enter Try.func52, Try.ntmps52
  go_wp2_with fail
  refine cs.mono ?_
  rintro e w' ⟨rfl, tv, h⟩
  have c1 := h.c1
  have fr := h.free 1
  have H := hidden h
  clear h cs
  go_wp2
  go_ret
  refine ⟨rfl, tv, ?_⟩
  have := H.out.at' (i' := i + 1) Hi.out (Nat.le_succ _)
  simpa using this
set_option maxHeartbeats 1000000 in
theorem take_no (h : Rd B R n w0 v f w i d T) (s : ByteArray) (hs : see f n i s = false) :
    Calls Try.prog 52 #[.pointer (some ⟨R, 0, none⟩), .string s] w fun e w' => e = .returned (.bool false) ∧ Rd B R n w0 v f w' i d T := by
  have cs := sees_any h s
  rw [hs] at cs
  clear h hs
  go_enter Try.func52, Try.ntmps52
  go_wp2_with fail
  refine cs.mono ?_
  rintro e w' ⟨rfl, h⟩
  have H := hidden h
  clear h cs
  go_wp2
  go_ret
  exact ⟨rfl, H.out⟩
/-- The panic of an error at a byte. -/
abbrev Boom (i : Nat) (x : Int) : Ending := .panicked [{ v := .iface 62 (.agg #[.int .i64 (i : Nat), .int .i64 x]), recovered := false }]
set_option maxHeartbeats 1000000 in
theorem fail_any (h : Rd B R n w0 v f w i d T) (x : Int) :
    Calls Try.prog 35 #[.pointer (some ⟨R, 0, none⟩), .int .i64 x] w fun e w' => e = Boom i x ∧ Rd B R n w0 v f w' i d T := by
  obtain ⟨tv, h⟩ := h
  have c1 := h.c1
  have H := hidden h
  clear h
  go_enter Try.func35, Try.ntmps35
  go_wp2
  exact ⟨rfl, rfl, _, H.out⟩
set_option maxHeartbeats 1000000 in
theorem need_yes (h : Rd B R n w0 v f w i d T) (s : ByteArray) (hs : see f n i s = true) :
    Calls Try.prog 79 #[.pointer (some ⟨R, 0, none⟩), .string s] w fun e w' => e = .returned (.tuple #[]) ∧ Rd B R n w0 v f w' (i + 1) d T := by
  have cs := take_yes h s hs
  clear h hs
  go_enter Try.func79, Try.ntmps79
  go_wp2_with fail
  refine cs.mono ?_
  rintro e w' ⟨rfl, h⟩
  have H := hidden h
  clear h cs
  go_wp2
  go_end0
  exact ⟨rfl, H.out⟩
set_option maxHeartbeats 1000000 in
theorem need_no (h : Rd B R n w0 v f w i d T) (s : ByteArray) (hs : see f n i s = false) :
    Calls Try.prog 79 #[.pointer (some ⟨R, 0, none⟩), .string s] w fun e w' => e = Boom i 5 ∧ Rd B R n w0 v f w' i d T := by
  have cs := take_no h s hs
  clear h hs
  go_enter Try.func79, Try.ntmps79
  go_wp2_with fail
  refine cs.mono ?_
  rintro e w' ⟨rfl, h⟩
  have cf := fail_any h 5
  clear h cs
  go_wp2_with fail
  refine cf.mono ?_
  rintro e w' ⟨rfl, h⟩
  have H := hidden h
  clear h cf
  go_wp2
  exact ⟨rfl, rfl, H.out⟩
set_option maxHeartbeats 1000000 in
theorem skip_yes (h : Rd B R n w0 v f w i d T) (hi : i < n) :
    Calls Try.prog 82 #[.pointer (some ⟨R, 0, none⟩)] w fun e w' => e = .returned (.tuple #[]) ∧ Rd B R n w0 v f w' (i + 1) d T := by
  obtain ⟨tv, h⟩ := h
  have c0 := h.c0
  have c1 := h.c1
  have fr := h.free 1
  have hn := h.hn
  have H := hidden h
  have Hi := hidden hi
  obtain ⟨a, cap, rfl⟩ := h.val
  have hlz : ((i : Int) == (n : Int)) = false := by simp; omega
  have hb : i ≤ 100000 := by omega
  clear h hi hn
  go_enter Try.func82, Try.ntmps82
  go_wp2_with fail
  go_quiet (fail)
  go_wp2
  go_end0
  refine ⟨rfl, tv, ?_⟩
  have := (H.out.drewN nq).at' (i' := i + 1) Hi.out (Nat.le_succ _)
  simpa using this
set_option maxHeartbeats 1000000 in
theorem skip_no (h : Rd B R n w0 v f w i d T) (hi : ¬ i < n) :
    Calls Try.prog 82 #[.pointer (some ⟨R, 0, none⟩)] w fun e w' => e = Boom i 5 ∧ Rd B R n w0 v f w' i d T := by
  obtain ⟨tv, h⟩ := h
  have c0 := h.c0
  have c1 := h.c1
  have hh := h.hi
  have H := hidden h
  obtain ⟨a, cap, rfl⟩ := h.val
  have hlz : ((i : Int) == (n : Int)) = true := by simp; omega
  clear h hi hh
  go_enter Try.func82, Try.ntmps82
  go_wp2_with fail
  go_quiet (fail)
  have cf := fail_any ⟨tv, H.out.drewN nq⟩ 5
  clear H
  go_wp2_with fail
  refine cf.mono ?_
  rintro e w' ⟨rfl, h⟩
  have H := hidden h
  clear h cf
  go_wp2
  exact ⟨rfl, rfl, H.out⟩
/-- Does the next byte go on with an atom? -/
def wth (f : Nat → Nat) (n i : Nat) : Bool := decide (i < n) && isP (f i)
set_option maxHeartbeats 2000000 in
theorem within_any (h : Rd B R n w0 v f w i d T) :
    Calls Try.prog 83 #[.pointer (some ⟨R, 0, none⟩)] w fun e w' => e = .returned (.bool (wth f n i)) ∧ Rd B R n w0 v f w' i d T := by
  obtain ⟨tv, h⟩ := h
  have c0 := h.c0
  have c1 := h.c1
  have hw := has_part (f i) (h.hf i)
  have H := hidden h
  by_cases hi : i < n
  · have cs := fun q => sees_q (h.drewN q) ⟨#[40, 41, 34, 39, 96, 44, 59, 127]⟩
    obtain ⟨b, off, cap, rfl, hcap, g⟩ := h.byte hi
    have hlz : (i : Int) < (n : Int) := by omega
    by_cases h32 : 32 < f i
    · have h3z : (32 : Int) < (f i : Nat) := by omega
      have Hs : Hid (wth f n i = !see f n i ⟨#[40, 41, 34, 39, 96, 44, 59, 127]⟩) := by
        unfold wth see Hid; rw [← hw]; simp [hi, h32]
      clear h hw h32
      go_enter Try.func83, Try.ntmps83
      go_wp2_with fail
      go_quiet ((go_at_call 53; exact Calls.quiet_of (cs _)))
      go_wp2
      go_ret
      exact ⟨by rw [Hs.out]; simp, _, H.out.drewN _⟩
    · have H3 : Hid (decide ((32 : Int) < ((f i : Nat) : Int)) = false) := by unfold Hid; simp; omega
      have Hs : Hid (wth f n i = false) := by
        unfold wth Hid; rw [← hw]; simp [h32]
      clear h hw h32
      go_enter Try.func83, Try.ntmps83
      go_wp2_with fail
      have h3z := H3.out
      go_quiet (fail)
      go_wp2
      go_ret
      exact ⟨by rw [Hs.out]; simp, _, H.out.drewN _⟩
  · obtain ⟨a, cap, rfl⟩ := h.val
    have hlz : ¬ ((i : Int) < (n : Int)) := by omega
    have Hs : Hid (wth f n i = false) := by
      unfold wth Hid; simp [hi]
    clear h hw
    go_enter Try.func83, Try.ntmps83
    go_wp2_with fail
    go_quiet (fail)
    go_wp2
    go_ret
    exact ⟨by rw [Hs.out]; simp, _, H.out.drewN _⟩
end Go.Proofs.PlatenSexp

/- What blanks, token, sign of the reader come to. -/
namespace Go.Proofs.PlatenSexp
open Go Go.RowKit
set_option linter.unusedVariables false
set_option maxRecDepth 100000
variable {B R n : Nat} {w0 : World} {v : Value} {f : Nat → Nat} {w : World} {i d : Nat} {T : List Tk}

/-- Where the reader stands, as the world has it. -/
def atOf (R : Nat) (w : World) : Nat := (intOf ((w.cell? ⟨R, 1, none⟩).getD undef)).toNat
theorem Rd.at (h : Rd B R n w0 v f w i d T) : atOf R w = i := by
  obtain ⟨tv, h⟩ := h
  simp [atOf, h.c1, intOf]
theorem Rd.hf (h : Rd B R n w0 v f w i d T) : ∀ j, f j < 256 := h.choose_spec.hf
theorem Rd.hi (h : Rd B R n w0 v f w i d T) : i ≤ n := h.choose_spec.hi
theorem Rd.hn (h : Rd B R n w0 v f w i d T) : n ≤ 100000 := h.choose_spec.hn
theorem Rd.len (h : Rd B R n w0 v f w i d T) : T.length ≤ i := h.choose_spec.len
theorem Rd.drewN (h : Rd B R n w0 v f w i d T) (q : Nat) : Rd B R n w0 v f (w.drewN q) i d T := h.imp fun tv h => h.drewN q
theorem see_lt {s : ByteArray} (h : see f n i s = true) : i < n := by unfold see at h; simp at h; exact h.1
theorem see_b (h : Rd B R n w0 v f w i d T) : see f n i ⟨#[32, 9, 10, 13]⟩ = (decide (i < n) && isB (f i)) := by unfold see; rw [has_blank _ (h.hf i)]
theorem see_q3 (h : Rd B R n w0 v f w i d T) : see f n i ⟨#[39, 96, 44]⟩ = (decide (i < n) && (decide (f i = 39) || decide (f i = 96) || decide (f i = 44))) := by unfold see; rw [has_q3 _ (h.hf i)]
theorem see_q2 (h : Rd B R n w0 v f w i d T) : see f n i ⟨#[39, 96]⟩ = (decide (i < n) && (decide (f i = 39) || decide (f i = 96))) := by unfold see; rw [has_q2 _ (h.hf i)]
theorem see_1 (h : Rd B R n w0 v f w i d T) (b : UInt8) : see f n i ⟨#[b]⟩ = (decide (i < n) && decide (f i = b.toNat)) := by unfold see; rw [has_one _ _ (h.hf i)]

theorem take_dst {P : Program} {md : Region.Mode} {ops : Array Oper} {Q : Exit → Act → World → Prop} {S : World → Prop} (i : Nat) (d : Option Nat) {oi : Oper} {v : Value} {fuel : Nat} {listed : Array Bool} {a : Act} {w : World} (hi : ops[i]? = some oi) (hd : oi.dst = d)
    (hs : Region.noSelect ops = true) (hf : Region.free md ops listed i = true) (hr : (Region.ready md ops listed).contains i = true)
    (hQ : ∀ c a w, Q (.panic c) (a.put d v) w → Q (.panic c) a w) (hy : YieldsIf P ops S oi v a) (hS : S w)
    (h : wpAnyH P md ops Q S fuel (listed.setIfInBounds i true) (a.put d v) w) : wpAnyH P md ops Q S (fuel + 1) listed a w := by
  subst hd
  exact wpAnyH_take hi hs hf hr hQ hy hS h
theorem step_append_wh {P : Program} {ops : Array Oper} {o : Oper} {a : Act} {w : World} {K : Act → World → Prop} {Q : Exit → Act → World → Prop} {E : Prop} (hgd : o.guard = none) (s x : Operand) (t : TypeId)
    (hop : o.op = .call { callee := .builtin .append, args := #[s, x], argTypes := #[t, t] })
    (base : Nat) (e : TypeId) (i : TypeInfo) (z : Value) (size bytes : Nat) (ht : P.underlying t = some (.slice e)) (hi : P.info? e = some i) (hz : i.zero = some z)
    (hsize : i.size = size) (hby : i.bytes = bytes) (hzs : z.cells.size = size) (hsz : 0 < size)
    (v : Value) (n : Nat) (xs : List Value) (hs : a.eval s = v) (hown : w.ownsRow base e size v n xs)
    (ad : Addr) (m c : Nat) (news : List Value) (hx : a.eval x = .slice (some ad) m c) (hl : news.length = m * size) (hnews : ∀ j u, news[j]? = some u → w.cell? (ad.add j) = some u) (h1 : ∀ u ∈ news, u.oneCell' = true)
    (h63 : n + m ≤ maxLen) (hbytes : (n + m) * bytes ≤ 140737488355328) (hbase : base ≤ w.heap.size) (hm : 0 < m)
    (hK : ∀ v' w', Hid (w'.ownsRow base e size v' (n + m) (xs ++ news)) → Hid (w.grownBy w' v.ownBlock) → Hid (v'.ownBlock = v.ownBlock ∨ v'.ownBlock = some w.heap.size) → K (a.put o.dst v') w') :
    if Region.wanted o (yielded ops a.tmps) = true then Oper.wp P o a w K Q else E := by
  have hw : Region.wanted o (yielded ops a.tmps) = true := by simp [Region.wanted, hgd]
  rw [if_pos hw]
  obtain ⟨v', w', hrun, h2, h3, h4⟩ := run_append_at (P := P) w base t o.type e i z size bytes ht hi hz hsize hby hzs hsz v n xs hown ad m c news hl hnews h1 h63 hbytes hbase hm
  unfold Oper.wp
  simp [execOp, hop, resolve, invoke, builtin, hs, hx, hrun, Result.andThen]
  exact hK _ _ h2 h3 h4
theorem cells3e (X : World) (t : TypeId) (a b c : Value) : ∀ j u, [a, b, c][j]? = some u → (X.alloc (.cells #[a, b, c] t)).cell? ((⟨X.heap.size, 0, none⟩ : Addr).add j) = some u := by
  intro j u hj
  match j, hj with
  | 0, hj => simp at hj; subst hj; simp [Addr.add]
  | 1, hj => simp at hj; subst hj; simp [Addr.add]
  | 2, hj => simp at hj; subst hj; simp [Addr.add]
  | j + 3, hj => simp at hj
theorem row_slice {B : Nat} {w : World} {e : TypeId} {s n : Nat} {v : Value} {xs : List Value} (h : w.ownsRow B e s v n xs) : ∃ va vc, v = .slice va n vc := by
  rcases h.2 with ⟨e, h0⟩ | ⟨g, cap, cur, e, _⟩
  · exact ⟨none, 0, by rw [e, h0]⟩
  · exact ⟨_, _, e⟩

def BlP (B R n : Nat) (w0 : World) (v : Value) (f : Nat → Nat) (i d : Nat) (T : List Tk) (w : World) : Prop := ∃ j, Skp f n i j ∧ Rd B R n w0 v f w j d T
set_option maxHeartbeats 1000000 in
theorem blanks_any (h : Rd B R n w0 v f w i d T) :
    Calls Try.prog 33 #[.pointer (some ⟨R, 0, none⟩)] w fun e w' => e = .returned (.tuple #[]) ∧ BlP B R n w0 v f i d T w' := by
  have H := hidden h
  clear h
  go_enter Try.func33, Try.ntmps33
  go_wp2_with fail
  go_loopw [] (fun wr => ∃ j, i ≤ j ∧ (∀ k, i ≤ k → k < j → isB (f k) = true) ∧ Rd B R n w0 v f wr j d T) (fun wr => n - atOf R wr)
  case atStart => exact ⟨i, Nat.le_refl _, fun k h1 h2 => by omega, H.out⟩
  case round =>
    obtain ⟨j, hij, hall, hr⟩ := hrel
    have Hall := hidden hall
    have Hat := hidden hr.at
    cases hs : see f n j ⟨#[32, 9, 10, 13]⟩ with
    | true =>
      have ct := take_yes hr _ hs
      rw [see_b hr] at hs
      simp at hs
      have Hs := hidden hs
      clear hs hall hr
      go_wp2_with fail
      refine ct.mono ?_
      rintro e w1 ⟨rfl, h1⟩
      have H1 := hidden h1
      clear h1 ct
      go_wp2
      go_roundw
      case rel =>
        refine ⟨j + 1, by omega, fun k h1 h2 => ?_, H1.out⟩
        rcases Nat.lt_or_ge k j with q | q
        · exact Hall.out k h1 q
        · obtain rfl : k = j := by omega
          exact Hs.out.2
      case measure => rw [H1.out.at, Hat.out]; have := Hs.out.1; omega
    | false =>
      have ct := take_no hr _ hs
      rw [see_b hr] at hs
      have Hs : Hid (j < n → isB (f j) = false) := fun q => by simpa [q] using hs
      have Hn := hidden hr.hi
      clear hs hall hr
      go_wp2_with fail
      refine ct.mono ?_
      rintro e w1 ⟨rfl, h1⟩
      have H1 := hidden h1
      clear h1 ct
      go_wp2
      go_end0
      exact ⟨rfl, j, ⟨hij, Hn.out, Hall.out, Hs.out⟩, H1.out⟩
set_option maxHeartbeats 2000000 in
theorem token_any (h : Rd B R n w0 v f w i d T) (k s : Nat) (hk : k < 256) (hs : s ≤ i) (hT : T.length < i) :
    Calls Try.prog 80 #[.pointer (some ⟨R, 0, none⟩), .int .u8 (k : Nat), .int .i64 (s : Nat)] w fun e w' => e = .returned (.tuple #[]) ∧ BlP B R n w0 v f i d (T ++ [(k, s, i - s)]) w' := by
  obtain ⟨i0, hi, hz0, hz1, hz2⟩ := info_parts info34
  obtain ⟨tv, h⟩ := h
  have hn := h.hn
  have hin := h.hi
  have hib : i ≤ 100000 := by omega
  have H := hidden h.drew
  clear h
  go_enter Try.func80, Try.ntmps80
  go_wp2_with fail
  have wr1 : IntKind.i64.wrap ((i : Int) - (s : Int)) = (i : Int) - (s : Int) := IntWalk.i64_in _ (by omega)
  refine wp_region_held_drew (S := (fun u => u.cell? ⟨R, 1, none⟩ = some (.int .i64 (i : Nat)))) (by kernel_rfl) H.out.c1 (fun hHeld => ?_)
  generalize w.drew = w1 at *
  have C1 : Hid (w1.cell? ⟨R, 1, none⟩ = some (.int .i64 (i : Nat))) := H.out.c1
  refine take_dst 0 (some 6) rfl rfl (by kernel_rfl) (by kernel_rfl) (by kernel_rfl) (fun _ _ _ h => h) (v := ?_) (Or.inl ⟨by rfl, ?_⟩) (by assumption) ?_
  rotate_left
  · (intro w hSw; (try dsimp only at hSw); go_simp; try with_reducible rfl)
  simp only [Act.put, List.setIfInBounds_toArray, List.set_cons_zero, List.set_cons_succ]
  refine take_dst 1 (some 7) rfl rfl (by kernel_rfl) (by kernel_rfl) (by kernel_rfl) (fun _ _ _ h => h) (v := ?_) (Or.inl ⟨by rfl, ?_⟩) (by assumption) ?_
  rotate_left
  · (intro w hSw; (try dsimp only at hSw); go_simp; try with_reducible rfl)
  simp only [Act.put, List.setIfInBounds_toArray, List.set_cons_zero, List.set_cons_succ]
  refine take_dst 2 (some 8) rfl rfl (by kernel_rfl) (by kernel_rfl) (by kernel_rfl) (fun _ _ _ h => h) (v := ?_) (Or.inl ⟨by rfl, ?_⟩) (by assumption) ?_
  rotate_left
  · (intro w hSw; (try dsimp only at hSw); go_simp; try with_reducible rfl)
  simp only [Act.put, List.setIfInBounds_toArray, List.set_cons_zero, List.set_cons_succ]
  refine take_dst 3 (some 9) rfl rfl (by kernel_rfl) (by kernel_rfl) (by kernel_rfl) (fun _ _ _ h => h) (v := ?_) (Or.inl ⟨by rfl, ?_⟩) (by assumption) ?_
  rotate_left
  · (intro w hSw; (try dsimp only at hSw); go_simp; try with_reducible rfl)
  simp only [Act.put, List.setIfInBounds_toArray, List.set_cons_zero, List.set_cons_succ]
  refine take_dst 5 (some 11) rfl rfl (by kernel_rfl) (by kernel_rfl) (by kernel_rfl) (fun _ _ _ h => h) (v := ?_) (Or.inl ⟨by rfl, ?_⟩) (by assumption) ?_
  rotate_left
  · (intro w hSw; (try dsimp only at hSw); go_simp; try with_reducible rfl)
  simp only [Act.put, List.setIfInBounds_toArray, List.set_cons_zero, List.set_cons_succ]
  refine take_dst 6 (some 12) rfl rfl (by kernel_rfl) (by kernel_rfl) (by kernel_rfl) (fun _ _ _ h => h) (v := ?_) (Or.inl ⟨by rfl, ?_⟩) (by assumption) ?_
  rotate_left
  · (intro w hSw; (try dsimp only at hSw); go_simp; try with_reducible rfl)
  simp only [Act.put, List.setIfInBounds_toArray, List.set_cons_zero, List.set_cons_succ]
  refine take_dst 7 (some 13) rfl rfl (by kernel_rfl) (by kernel_rfl) (by kernel_rfl) (fun _ _ _ h => h) (v := ?_) (Or.inl ⟨by rfl, ?_⟩) (by assumption) ?_
  rotate_left
  · (intro w hSw; (try dsimp only at hSw); go_simp; try with_reducible rfl)
  simp only [Act.put, List.setIfInBounds_toArray, List.set_cons_zero, List.set_cons_succ]
  refine take_dst 8 (some 14) rfl rfl (by kernel_rfl) (by kernel_rfl) (by kernel_rfl) (fun _ _ _ h => h) (v := ?_) (Or.inl ⟨by rfl, ?_⟩) (by assumption) ?_
  rotate_left
  · (intro w hSw; (try dsimp only at hSw); go_simp; try with_reducible rfl)
  simp only [Act.put, List.setIfInBounds_toArray, List.set_cons_zero, List.set_cons_succ]
  refine take_dst 9 (some 15) rfl rfl (by kernel_rfl) (by kernel_rfl) (by kernel_rfl) (fun _ _ _ h => h) (v := ?_) (Or.inl ⟨by rfl, ?_⟩) (by assumption) ?_
  rotate_left
  · (intro w hSw; (try dsimp only at hSw); go_simp; try with_reducible rfl)
  simp only [Act.put, List.setIfInBounds_toArray, List.set_cons_zero, List.set_cons_succ]
  refine take_dst 10 (some 16) rfl rfl (by kernel_rfl) (by kernel_rfl) (by kernel_rfl) (fun _ _ _ h => h) (v := ?_) (Or.inl ⟨by rfl, ?_⟩) (by assumption) ?_
  rotate_left
  · (intro w hSw; (try dsimp only at hSw); go_simp; try with_reducible rfl)
  simp only [Act.put, List.setIfInBounds_toArray, List.set_cons_zero, List.set_cons_succ]
  refine take_dst 11 (some 17) rfl rfl (by kernel_rfl) (by kernel_rfl) (by kernel_rfl) (fun _ _ _ h => h) (v := ?_) (Or.inl ⟨by rfl, ?_⟩) (by assumption) ?_
  rotate_left
  · (intro w hSw; (try dsimp only at hSw); go_simp; try with_reducible rfl)
  simp only [Act.put, List.setIfInBounds_toArray, List.set_cons_zero, List.set_cons_succ]
  refine take_dst 12 (some 18) rfl rfl (by kernel_rfl) (by kernel_rfl) (by kernel_rfl) (fun _ _ _ h => h) (v := ?_) (Or.inl ⟨by rfl, ?_⟩) (by assumption) ?_
  rotate_left
  · (intro w hSw; (try dsimp only at hSw); go_simp; try with_reducible rfl)
  simp only [Act.put, List.setIfInBounds_toArray, List.set_cons_zero, List.set_cons_succ]
  refine take_dst 13 (some 19) rfl rfl (by kernel_rfl) (by kernel_rfl) (by kernel_rfl) (fun _ _ _ h => h) (v := ?_) (Or.inl ⟨by rfl, ?_⟩) (by assumption) ?_
  rotate_left
  · (intro w hSw; (try dsimp only at hSw); go_simp; try with_reducible rfl)
  simp only [Act.put, List.setIfInBounds_toArray, List.set_cons_zero, List.set_cons_succ]
  have H1 := hidden (H.out.grown (grownBy_alloc w1 (.cells #[.int .u8 (k : Nat), .int .i64 (s : Nat), .int .i64 ((i : Int) - (s : Int))] 47)))
  have c3 := H.out.c3
  refine wpAnyH_ready (rs := [4, 14]) (by kernel_rfl) (by simp) ?_
  refine AllReadyH.cons rfl (fun K hK => ?_) (AllReadyH.cons rfl (fun K hK => ?_) AllReadyH.nil)
  · go_simp
    refine hK.out _ _ C1.out (fun hHeld1 => ?_)
    clear hK K hHeld1
    refine wpAnyH_ready (rs := [14]) (by kernel_rfl) (by simp) ?_
    refine AllReadyH.cons rfl (fun K hK => ?_) AllReadyH.nil
    go_simp
    refine hK.out _ _ H1.out.c1 (fun hHeld2 => ?_)
    clear hK K hHeld2
    generalize hW : w1 = W at *
    refine wpAnyH_ready (rs := [15]) (by kernel_rfl) (by simp) ?_
    refine AllReadyH.cons rfl (fun K hK => ?_) AllReadyH.nil
    refine step_append_wh rfl (.tmp 10) (.tmp 20) 24 rfl B 47 i0 (.agg #[.int .u8 0, .int .i64 0, .int .i64 0]) 3 24 Try.underlying24 hi hz0 hz1 hz2 rfl (by decide) tv T.length (rowT T) (by simp [Act.eval]) H1.out.row ⟨W.heap.size, 0, none⟩ 1 1 [.int .u8 (k : Nat), .int .i64 (s : Nat), .int .i64 ((i : Int) - (s : Int))] (by simp [Act.eval]) rfl (cells3e _ _ _ _ _) (by intro u hu; simp at hu; rcases hu with rfl | rfl | rfl <;> rfl) (by unfold maxLen; omega) (by omega) H1.out.bs (by decide) ?_
    intro v' w3 hr3 hg3 _
    have HP : Hid (RS B R n w0 v f (w3.setCell ⟨R, 3, none⟩ v') v' i d (T ++ [(k, s, i - s)])) := H1.out.push hT (by rw [rowT_one, show (((i - s : Nat) : Nat) : Int) = (i : Int) - (s : Int) by omega]; exact hr3.out) hg3.out
    have hd3 : w3.heap[R]? = some (.cells #[v, .int .i64 (i : Nat), .int .i64 (d : Nat), tv] 66 (0, 0)) := (hg3.out.block R H1.out.lt (fun e => H1.out.own e.symm)).trans H1.out.head
    have e1 : w3.cell? ⟨R, 1, none⟩ = some (.int .i64 (i : Nat)) := by simp only [World.cell?, hd3]; rfl
    have e3 : w3.cell? ⟨R, 3, none⟩ = some tv := by simp only [World.cell?, hd3]; rfl
    have f3 : w3.frozen? ⟨R, 3, none⟩ = false := frozen_of_row w3 R 3 _ 66 hd3
    obtain ⟨va, vc, rfl⟩ := row_slice hr3.out
    have E1 : Hid ((w3.setCell ⟨R, 3, none⟩ (.slice va (T.length + 1) vc)).cell? ⟨R, 1, none⟩ = some (.int .i64 (i : Nat))) := HP.out.c1
    have E3 := hidden e1
    clear hr3 hg3 hd3
    refine hK.out _ _ E3.out (fun hHeld4 => ?_)
    clear hK K
    refine take_dst 16 (some 22) rfl rfl (by kernel_rfl) (by kernel_rfl) (by kernel_rfl) (fun _ _ _ h => h) (v := ?_) (Or.inl ⟨by rfl, ?_⟩) (by assumption) ?_
    rotate_left
    · (intro w hSw; (try dsimp only at hSw); go_simp; try with_reducible rfl)
    simp only [Act.put, List.setIfInBounds_toArray]
    refine take_dst 17 (some 23) rfl rfl (by kernel_rfl) (by kernel_rfl) (by kernel_rfl) (fun _ _ _ h => h) (v := ?_) (Or.inl ⟨by rfl, ?_⟩) (by assumption) ?_
    rotate_left
    · (intro w hSw; (try dsimp only at hSw); go_simp; try with_reducible rfl)
    simp only [Act.put]
    refine wpAnyH_ready (rs := [18]) (by kernel_rfl) (by simp) ?_
    refine AllReadyH.cons rfl (fun K hK => ?_) AllReadyH.nil
    go_simp
    refine hK.out _ _ E1.out (fun hHeld5 => ?_)
    clear hK K
    refine wpAnyH_done (by kernel_rfl) ?_ _
    clear hHeld4 hHeld5 e1 e3 f3
    go_wp2_with fail
    refine (blanks_any ⟨_, HP.out⟩).mono ?_
    rintro e w4 ⟨rfl, hb⟩
    have Hb := hidden hb
    clear hb
    go_wp2
    go_end0
    exact ⟨rfl, Hb.out⟩
  · go_simp
    refine hK.out _ _ H1.out.c1 (fun hHeld1 => ?_)
    clear hK K hHeld1
    have c31 := H1.out.c3
    refine wpAnyH_ready (rs := [4]) (by kernel_rfl) (by simp) ?_
    refine AllReadyH.cons rfl (fun K hK => ?_) AllReadyH.nil
    go_simp
    refine hK.out _ _ H1.out.c1 (fun hHeld2 => ?_)
    clear hK K hHeld2 c31
    generalize hW : w1 = W at *
    refine wpAnyH_ready (rs := [15]) (by kernel_rfl) (by simp) ?_
    refine AllReadyH.cons rfl (fun K hK => ?_) AllReadyH.nil
    refine step_append_wh rfl (.tmp 10) (.tmp 20) 24 rfl B 47 i0 (.agg #[.int .u8 0, .int .i64 0, .int .i64 0]) 3 24 Try.underlying24 hi hz0 hz1 hz2 rfl (by decide) tv T.length (rowT T) (by simp [Act.eval]) H1.out.row ⟨W.heap.size, 0, none⟩ 1 1 [.int .u8 (k : Nat), .int .i64 (s : Nat), .int .i64 ((i : Int) - (s : Int))] (by simp [Act.eval]) rfl (cells3e _ _ _ _ _) (by intro u hu; simp at hu; rcases hu with rfl | rfl | rfl <;> rfl) (by unfold maxLen; omega) (by omega) H1.out.bs (by decide) ?_
    intro v' w3 hr3 hg3 _
    have HP : Hid (RS B R n w0 v f (w3.setCell ⟨R, 3, none⟩ v') v' i d (T ++ [(k, s, i - s)])) := H1.out.push hT (by rw [rowT_one, show (((i - s : Nat) : Nat) : Int) = (i : Int) - (s : Int) by omega]; exact hr3.out) hg3.out
    have hd3 : w3.heap[R]? = some (.cells #[v, .int .i64 (i : Nat), .int .i64 (d : Nat), tv] 66 (0, 0)) := (hg3.out.block R H1.out.lt (fun e => H1.out.own e.symm)).trans H1.out.head
    have e1 : w3.cell? ⟨R, 1, none⟩ = some (.int .i64 (i : Nat)) := by simp only [World.cell?, hd3]; rfl
    have e3 : w3.cell? ⟨R, 3, none⟩ = some tv := by simp only [World.cell?, hd3]; rfl
    have f3 : w3.frozen? ⟨R, 3, none⟩ = false := frozen_of_row w3 R 3 _ 66 hd3
    obtain ⟨va, vc, rfl⟩ := row_slice hr3.out
    have E1 : Hid ((w3.setCell ⟨R, 3, none⟩ (.slice va (T.length + 1) vc)).cell? ⟨R, 1, none⟩ = some (.int .i64 (i : Nat))) := HP.out.c1
    have E3 := hidden e1
    clear hr3 hg3 hd3
    refine hK.out _ _ E3.out (fun hHeld4 => ?_)
    clear hK K
    refine take_dst 16 (some 22) rfl rfl (by kernel_rfl) (by kernel_rfl) (by kernel_rfl) (fun _ _ _ h => h) (v := ?_) (Or.inl ⟨by rfl, ?_⟩) (by assumption) ?_
    rotate_left
    · (intro w hSw; (try dsimp only at hSw); go_simp; try with_reducible rfl)
    simp only [Act.put, List.setIfInBounds_toArray]
    refine take_dst 17 (some 23) rfl rfl (by kernel_rfl) (by kernel_rfl) (by kernel_rfl) (fun _ _ _ h => h) (v := ?_) (Or.inl ⟨by rfl, ?_⟩) (by assumption) ?_
    rotate_left
    · (intro w hSw; (try dsimp only at hSw); go_simp; try with_reducible rfl)
    simp only [Act.put]
    refine wpAnyH_ready (rs := [18]) (by kernel_rfl) (by simp) ?_
    refine AllReadyH.cons rfl (fun K hK => ?_) AllReadyH.nil
    go_simp
    refine hK.out _ _ E1.out (fun hHeld5 => ?_)
    clear hK K
    refine wpAnyH_done (by kernel_rfl) ?_ _
    clear hHeld4 hHeld5 e1 e3 f3
    go_wp2_with fail
    refine (blanks_any ⟨_, HP.out⟩).mono ?_
    rintro e w4 ⟨rfl, hb⟩
    have Hb := hidden hb
    clear hb
    go_wp2
    go_end0
    exact ⟨rfl, Hb.out⟩
set_option maxHeartbeats 1000000 in
theorem sign_yes (h : Rd B R n w0 v f w i d T) (k : Nat) (hk : k < 256) (s : ByteArray) (hs : see f n i s = true) :
    Calls Try.prog 81 #[.pointer (some ⟨R, 0, none⟩), .int .u8 (k : Nat), .string s] w fun e w' => e = .returned (.tuple #[]) ∧ BlP B R n w0 v f (i + 1) d (T ++ [(k, i, 1)]) w' := by
  have cn := need_yes h s hs
  have hl := h.len
  obtain ⟨tv, h⟩ := h
  have c1 := h.c1
  have Hl := hidden hl
  clear h hs hl
  go_enter Try.func81, Try.ntmps81
  go_wp2_with fail
  refine cn.mono ?_
  rintro e w' ⟨rfl, h1⟩
  have ct := token_any h1 k i hk (Nat.le_succ _) (by have := Hl.out; omega)
  rw [show i + 1 - i = 1 by omega] at ct
  clear h1 cn c1
  go_wp2_with fail
  refine ct.mono ?_
  rintro e w' ⟨rfl, hb⟩
  have Hb := hidden hb
  clear hb ct
  go_wp2
  go_end0
  exact ⟨rfl, Hb.out⟩
set_option maxHeartbeats 1000000 in
theorem sign_no (h : Rd B R n w0 v f w i d T) (k : Nat) (s : ByteArray) (hs : see f n i s = false) :
    Calls Try.prog 81 #[.pointer (some ⟨R, 0, none⟩), .int .u8 (k : Nat), .string s] w fun e w' => e = Boom i 5 ∧ Rd B R n w0 v f w' i d T := by
  have cn := need_no h s hs
  obtain ⟨tv, h⟩ := h
  have c1 := h.c1
  clear h hs
  go_enter Try.func81, Try.ntmps81
  go_wp2_with fail
  refine cn.mono ?_
  rintro e w' ⟨rfl, h1⟩
  have H1 := hidden h1
  clear h1 cn c1
  go_wp2
  exact ⟨rfl, rfl, H1.out⟩

end Go.Proofs.PlatenSexp

/- What quote, quoted and atom of the reader come to. -/
namespace Go.Proofs.PlatenSexp
open Go Go.RowKit
set_option linter.unusedVariables false
set_option maxRecDepth 100000
variable {B R n : Nat} {w0 : World} {v : Value} {f : Nat → Nat} {w : World} {i d : Nat} {T : List Tk}

/-- Something is passed, with the blanks behind it, and the machine stands there, too; or it can't be. -/
def Done (B R n : Nat) (w0 : World) (v : Value) (f : Nat → Nat) (o : Res) (d i st : Nat) (e : Ending) (w' : World) : Prop :=
  (e = .returned (.tuple #[]) ∧ ∃ j T, i < j ∧ (j < n → isB (f j) = false) ∧ Rd B R n w0 v f w' j d T ∧ Cv f n o st d T j) ∨
  (∃ x j : Nat, e = Boom j x ∧ Rx B R n w0 v f w' j ∧ o = ([], j, x))
theorem aft_ok (d : Nat) : aft d = 0 ∨ aft d = 1 ∨ aft d = 6 := by rcases aft_cases d with ⟨e, _⟩ | ⟨e, _⟩ <;> simp [e]

set_option maxHeartbeats 2000000 in
theorem quote_any {o : Res} {st : Nat} (h : Rd B R n w0 v f w i d T) (hi : i < n) (hc : f i = 39 ∨ f i = 96 ∨ f i = 44) (hst : st = 0 ∨ st = 1) (hm : Cv f n o st d T i) :
    Calls Try.prog 54 #[.pointer (some ⟨R, 0, none⟩)] w (Done B R n w0 v f o d i 0) := by
  have Hl := hidden h.len
  have Hn := hidden h.hn
  have Hi := hidden hi
  obtain ⟨tv, h⟩ := h
  have c1 := h.c1
  have H := hidden h
  cases hs : see f n i ⟨#[39, 96]⟩ with
  | true =>
    have ct := take_yes ⟨tv, h⟩ _ hs
    rw [see_q2 ⟨tv, h⟩] at hs
    simp at hs
    have HM := hidden (q_one hm hst hi hs.2)
    clear h hs hm hst hc hi
    go_enter Try.func54, Try.ntmps54
    go_wp2_with fail
    refine ct.mono ?_
    rintro e w1 ⟨rfl, h1⟩
    have ct := token_any h1 6 i (by decide) (by omega) (by have := Hl.out; omega)
    rw [show i + 1 - i = 1 by omega] at ct
    clear h1
    go_wp2_with fail
    refine ct.mono ?_
    rintro e w4 ⟨rfl, j4, hk4, h4⟩
    have HK4 := hidden hk4
    have H4 := hidden h4
    clear ct hk4 h4
    go_wp2_with fail
    go_end0
    refine Or.inl ⟨rfl, j4, _, ?_, HK4.out.2.2.2, H4.out, ?_⟩
    · have := HK4.out.1; omega
    · exact b_skip (by decide) HM.out HK4.out
  | false =>
    have ct := take_no ⟨tv, h⟩ _ hs
    rw [see_q2 ⟨tv, h⟩] at hs
    have hc44 : f i = 44 := by simp [hi] at hs; omega
    have HM := hidden (comma hm hst hi hc44)
    have Hc := hidden hc44
    clear h hs hm hst hc hi hc44
    go_enter Try.func54, Try.ntmps54
    go_wp2_with fail
    refine ct.mono ?_
    rintro e w1 ⟨rfl, h1⟩
    have cn := need_yes h1 ⟨#[44]⟩ (by rw [see_1 h1]; simp [Hi.out, Hc.out])
    clear h1 ct H
    go_wp2_with fail
    refine cn.mono ?_
    rintro e w2 ⟨rfl, h2⟩
    have Hin := hidden h2.hi
    clear cn
    cases hs : see f n (i + 1) ⟨#[64]⟩ with
    | true =>
      have ct := take_yes h2 _ hs
      rw [see_1 h2] at hs
      simp at hs
      have HQ := hidden (q_at HM.out hs.1 hs.2)
      clear h2 hs HM
      go_wp2_with fail
      refine ct.mono ?_
      rintro e w3 ⟨rfl, h3⟩
      have ct := token_any h3 6 i (by decide) (by omega) (by have := Hl.out; omega)
      clear h3
      go_wp2_with fail
      refine ct.mono ?_
      rintro e w4 ⟨rfl, j4, hk4, h4⟩
      have HK4 := hidden hk4
      have H4 := hidden h4
      clear ct hk4 h4
      go_wp2_with fail
      go_end0
      refine Or.inl ⟨rfl, j4, _, ?_, HK4.out.2.2.2, H4.out, ?_⟩
      · have := HK4.out.1; omega
      · exact b_skip (by decide) HQ.out HK4.out
    | false =>
      have ct := take_no h2 _ hs
      rw [see_1 h2] at hs
      have HQ := hidden (q_no HM.out Hin.out (fun q => by simpa [q] using hs))
      clear h2 hs HM
      go_wp2_with fail
      refine ct.mono ?_
      rintro e w3 ⟨rfl, h3⟩
      have ct := token_any h3 6 i (by decide) (by omega) (by have := Hl.out; omega)
      clear h3
      go_wp2_with fail
      refine ct.mono ?_
      rintro e w4 ⟨rfl, j4, hk4, h4⟩
      have HK4 := hidden hk4
      have H4 := hidden h4
      clear ct hk4 h4
      go_wp2_with fail
      go_end0
      refine Or.inl ⟨rfl, j4, _, ?_, HK4.out.2.2.2, H4.out, ?_⟩
      · have := HK4.out.1; omega
      · exact b_skip (by decide) HQ.out HK4.out

set_option maxHeartbeats 2000000 in
theorem quoted_any {o : Res} {st : Nat} (h : Rd B R n w0 v f w i d T) (hi : i < n) (hc : f i = 34) (hst : st = 0 ∨ st = 1) (hm : Cv f n o st d T i) :
    Calls Try.prog 56 #[.pointer (some ⟨R, 0, none⟩)] w (Done B R n w0 v f o d i (aft d)) := by
  have Hl := hidden h.len
  have Hn := hidden h.hn
  have cn := need_yes h ⟨#[34]⟩ (by rw [see_1 h]; simp [hi, hc])
  have HM := hidden (t_open hm hst hi hc)
  obtain ⟨tv, h⟩ := h
  have c1 := h.c1
  clear h hm hst hc hi
  go_enter Try.func56, Try.ntmps56
  go_wp2_with fail
  refine cn.mono ?_
  rintro e w1 ⟨rfl, h1⟩
  have H1 := hidden h1
  clear h1 cn c1
  go_wp2_with fail
  go_loopw [] (fun wr => ∃ j, i < j ∧ Rd B R n w0 v f wr j d T ∧ Cur f n o 4 d T i j) (fun wr => n - atOf R wr)
  case atStart => exact ⟨i + 1, Nat.lt_succ_self _, H1.out, HM.out⟩
  case round =>
    obtain ⟨j, hij, hr, hm⟩ := hrel
    have Hat := hidden hr.at
    have HMj := hidden hm
    have Hjn := hidden hr.hi
    clear hm HM H1
    cases hs : see f n j ⟨#[34]⟩ with
    | true =>
      have ct := take_yes hr _ hs
      rw [see_1 hr] at hs
      simp at hs
      have HC := hidden (t_close HMj.out hs.1 hs.2)
      clear hr hs HMj
      go_wp2_with fail
      refine ct.mono ?_
      rintro e w3 ⟨rfl, h3⟩
      have ct := token_any h3 5 i (by decide) (by omega) (by have := Hl.out; omega)
      clear h3
      go_wp2_with fail
      refine ct.mono ?_
      rintro e w4 ⟨rfl, j4, hk4, h4⟩
      have HK4 := hidden hk4
      have H4 := hidden h4
      clear ct hk4 h4
      go_wp2_with fail
      go_end0
      refine Or.inl ⟨rfl, j4, _, ?_, HK4.out.2.2.2, H4.out, ?_⟩
      · have := HK4.out.1; omega
      · exact b_skip (aft_ok d) HC.out HK4.out
    | false =>
      have ct := take_no hr _ hs
      rw [see_1 hr] at hs
      have H34 : Hid (j < n → f j ≠ 34) := fun q => by simpa [q] using hs
      clear hr hs
      go_wp2_with fail
      refine ct.mono ?_
      rintro e w3 ⟨rfl, h3⟩
      clear ct
      cases hs : see f n j ⟨#[92]⟩ with
      | true =>
        have ct := take_yes h3 _ hs
        rw [see_1 h3] at hs
        simp at hs
        have HM2 := hidden (t_slash HMj.out hs.1 hs.2)
        have Hjl := hidden hs.1
        clear h3 hs HMj H34
        go_wp2_with fail
        refine ct.mono ?_
        rintro e w4 ⟨rfl, h4⟩
        clear ct
        by_cases hj : j + 1 < n
        · have ck := skip_yes h4 hj
          have HM3 := hidden (t_any HM2.out hj)
          clear h4 hj HM2
          go_wp2_with fail
          refine ck.mono ?_
          rintro e w5 ⟨rfl, h5⟩
          have H5 := hidden h5
          clear ck h5
          go_wp2_with fail
          go_roundw
          case rel => exact ⟨j + 1 + 1, by omega, H5.out, HM3.out⟩
          case measure => rw [H5.out.at, Hat.out]; have := Hjl.out; omega
        · have ck := skip_no h4 hj
          have HO : Hid (o = ([], j + 1, 5)) := by
            have hl := Hjl.out
            obtain hq : j + 1 = n := by omega
            have := HM2.out
            rw [hq] at this ⊢
            exact t_end this (Or.inr rfl)
          clear h4 hj HM2
          go_wp2_with fail
          refine ck.mono ?_
          rintro e w5 ⟨rfl, h5⟩
          have H5 := hidden h5
          clear ck h5
          go_wp2_with fail
          exact ⟨rfl, Or.inr ⟨5, j + 1, rfl, H5.out.x, HO.out⟩⟩
      | false =>
        have ct := take_no h3 _ hs
        rw [see_1 h3] at hs
        have H92 : Hid (j < n → f j ≠ 92) := fun q => by simpa [q] using hs
        clear h3 hs
        go_wp2_with fail
        refine ct.mono ?_
        rintro e w4 ⟨rfl, h4⟩
        clear ct
        by_cases hj : j < n
        · have ck := skip_yes h4 hj
          have HM3 := hidden (t_plain HMj.out hj (H34.out hj) (H92.out hj))
          have Hjl := hidden hj
          clear h4 hj HMj H34 H92
          go_wp2_with fail
          refine ck.mono ?_
          rintro e w5 ⟨rfl, h5⟩
          have H5 := hidden h5
          clear ck h5
          go_wp2_with fail
          go_roundw
          case rel => exact ⟨j + 1, by omega, H5.out, HM3.out⟩
          case measure => rw [H5.out.at, Hat.out]; have := Hjl.out; omega
        · have ck := skip_no h4 hj
          have HO : Hid (o = ([], j, 5)) := by
            have hl := Hjn.out
            obtain hq : j = n := by omega
            have := HMj.out
            rw [hq] at this ⊢
            exact t_end this (Or.inl rfl)
          clear h4 hj HMj H34 H92
          go_wp2_with fail
          refine ck.mono ?_
          rintro e w5 ⟨rfl, h5⟩
          have H5 := hidden h5
          clear ck h5
          go_wp2_with fail
          exact ⟨rfl, Or.inr ⟨5, j, rfl, H5.out.x, HO.out⟩⟩

set_option maxHeartbeats 2000000 in
theorem atom_no {o : Res} {st : Nat} (h : Rd B R n w0 v f w i d T) (hst : st = 0 ∨ st = 1) (hm : Cv f n o st d T i) (hb : i < n → isB (f i) = false ∧ (st = 1 → f i ≠ 41))
    (hq : i < n → f i ≠ 39 ∧ f i ≠ 96 ∧ f i ≠ 44 ∧ f i ≠ 40 ∧ f i ≠ 34) (hn : see f n i ⟨#[64]⟩ = true ∨ see f n i ⟨#[64]⟩ = false ∧ wth f n i = false) :
    Calls Try.prog 57 #[.pointer (some ⟨R, 0, none⟩)] w (Done B R n w0 v f o d i (aft d)) := by
  have HO : Hid (o = ([], i, 5)) := by
    by_cases hi : i < n
    · obtain ⟨a1, a2, a3, a4, a5⟩ := hq hi
      refine x_bad hm hst hi (hb hi).1 ?_ (hb hi).2
      simp only [isX, Bool.or_eq_false_iff, decide_eq_false_iff_not, Bool.and_eq_false_iff, Bool.not_eq_false', decide_eq_true_eq]
      refine ⟨⟨⟨⟨⟨a1, a2⟩, a3⟩, a4⟩, a5⟩, ?_⟩
      rcases hn with e | ⟨e, e2⟩
      · rw [see_1 h] at e
        simp at e
        exact Or.inr e.2
      · simp [wth, hi] at e2
        exact Or.inl e2
    · have := h.hi
      obtain rfl : i = n := by omega
      exact x_end hm hst
  obtain ⟨tv, h⟩ := h
  have c1 := h.c1
  have cs := sees_any ⟨tv, h⟩ ⟨#[64]⟩
  clear h hm hb hq
  rcases hn with hs | ⟨hs, hw⟩
  · rw [hs] at cs
    clear hs
    go_enter Try.func57, Try.ntmps57
    go_wp2_with fail
    refine cs.mono ?_
    rintro e w1 ⟨rfl, h1⟩
    have cf := fail_any h1 5
    clear cs h1
    go_wp2_with fail
    refine cf.mono ?_
    rintro e w2 ⟨rfl, h2⟩
    have H2 := hidden h2
    clear cf h2
    go_wp2_with fail
    exact ⟨rfl, Or.inr ⟨5, i, rfl, H2.out.x, HO.out⟩⟩
  · rw [hs] at cs
    have HW := hidden hw
    clear hs hw
    go_enter Try.func57, Try.ntmps57
    go_wp2_with fail
    refine cs.mono ?_
    rintro e w1 ⟨rfl, h1⟩
    have ci := within_any h1
    rw [HW.out] at ci
    clear cs h1
    go_wp2_with fail
    refine ci.mono ?_
    rintro e w2 ⟨rfl, h2⟩
    have cf := fail_any h2 5
    clear ci h2
    go_wp2_with fail
    refine cf.mono ?_
    rintro e w2 ⟨rfl, h2⟩
    have H2 := hidden h2
    clear cf h2
    go_wp2_with fail
    exact ⟨rfl, Or.inr ⟨5, i, rfl, H2.out.x, HO.out⟩⟩

set_option maxHeartbeats 2000000 in
theorem atom_yes {o : Res} {st : Nat} (h : Rd B R n w0 v f w i d T) (hst : st = 0 ∨ st = 1) (hm : Cv f n o st d T i) (hs : see f n i ⟨#[64]⟩ = false) (hw : wth f n i = true) :
    Calls Try.prog 57 #[.pointer (some ⟨R, 0, none⟩)] w (Done B R n w0 v f o d i (aft d)) := by
  have Hl := hidden h.len
  have Hn := hidden h.hn
  have h64 : i < n ∧ isP (f i) = true ∧ f i ≠ 64 := by
    simp [wth] at hw
    rw [see_1 h] at hs
    simp [hw.1] at hs
    exact ⟨hw.1, hw.2, hs⟩
  have HM := hidden (a_open hm hst h64.1 h64.2.1 h64.2.2)
  have HW := hidden hw
  have cs := sees_any h ⟨#[64]⟩
  rw [hs] at cs
  obtain ⟨tv, h⟩ := h
  have c1 := h.c1
  clear h hm hs hw h64 hst
  go_enter Try.func57, Try.ntmps57
  go_wp2_with fail
  refine cs.mono ?_
  rintro e w1 ⟨rfl, h1⟩
  have ci := within_any h1
  rw [HW.out] at ci
  clear cs h1
  go_wp2_with fail
  refine ci.mono ?_
  rintro e w2 ⟨rfl, h2⟩
  have H2 := hidden h2
  clear ci h2
  go_wp2_with fail
  go_loopw [] (fun wr => ∃ j, i ≤ j ∧ Rd B R n w0 v f wr j d T ∧ (i < j → Cur f n o 3 d T i j)) (fun wr => n - atOf R wr)
  case atStart => exact ⟨i, Nat.le_refl _, H2.out, fun q => absurd q (Nat.lt_irrefl _)⟩
  case round =>
    obtain ⟨j, hij, hr, hm⟩ := hrel
    have Hat := hidden hr.at
    have HMj := hidden hm
    have Hjn := hidden hr.hi
    have ci := within_any hr
    have hjb : j ≤ 100000 := by have := hr.hi; have := Hn.out; omega
    clear hm hr H2
    cases hq : wth f n j with
    | true =>
      rw [hq] at ci
      simp [wth] at hq
      have HM3 : Hid (Cur f n o 3 d T i (j + 1)) := by
        rcases Nat.lt_or_ge i j with q | q
        · exact a_more (HMj.out q) hq.1 hq.2
        · obtain rfl : j = i := by omega
          exact HM.out
      have Hjl := hidden hq.1
      clear hq HM HMj
      go_wp2_with fail
      refine ci.mono ?_
      rintro e w3 ⟨rfl, tv3, h3⟩
      have c13 := h3.c1
      have fr3 := h3.free 1
      have H3 : Hid (RS B R n w0 v f (w3.setCell ⟨R, 1, none⟩ (.int .i64 ((j : Int) + 1))) tv3 (j + 1) d T) := by
        have := h3.at' (i' := j + 1) Hjl.out (Nat.le_succ _)
        simpa [Hid] using this
      clear ci h3
      go_wp2_with fail
      go_roundw
      case rel => exact ⟨j + 1, by omega, ⟨tv3, H3.out⟩, fun _ => HM3.out⟩
      case measure => rw [Rd.at ⟨tv3, H3.out⟩, Hat.out]; have := Hjl.out; omega
    | false =>
      rw [hq] at ci
      have hlt : i < j := by
        rcases Nat.lt_or_ge i j with q | q
        · exact q
        · obtain rfl : j = i := by omega
          rw [HW.out] at hq; cases hq
      have HC : Hid (Cv f n o (aft d) d (T ++ [(5, i, j - i)]) j) := a_end (HMj.out hlt) Hjn.out (fun q => by simpa [wth, q] using hq)
      clear hq HM HMj
      go_wp2_with fail
      refine ci.mono ?_
      rintro e w3 ⟨rfl, h3⟩
      have ct := token_any h3 5 i (by decide) (by omega) (by have := Hl.out; omega)
      clear ci h3
      go_wp2_with fail
      refine ct.mono ?_
      rintro e w4 ⟨rfl, j4, hk4, h4⟩
      have HK4 := hidden hk4
      have H4 := hidden h4
      clear ct hk4 h4
      go_wp2_with fail
      go_end0
      refine Or.inl ⟨rfl, j4, _, ?_, HK4.out.2.2.2, H4.out, ?_⟩
      · have := HK4.out.1; omega
      · exact b_skip (aft_ok d) HC.out HK4.out
end Go.Proofs.PlatenSexp

/- What list and expression of the reader come to: by the bytes that are left. -/
namespace Go.Proofs.PlatenSexp
open Go Go.RowKit
set_option linter.unusedVariables false
set_option maxRecDepth 100000

/-- An expression can be read at byte i. -/
def El (B R n : Nat) (w0 : World) (v : Value) (f : Nat → Nat) (i : Nat) : Prop :=
  ∀ (w : World) (d : Nat) (T : List Tk) (o : Res) (st : Nat), Rd B R n w0 v f w i d T → (st = 0 ∨ st = 1) → Cv f n o st d T i → (i < n → isB (f i) = false ∧ (st = 1 → f i ≠ 41)) →
    Calls Try.prog 34 #[.pointer (some ⟨R, 0, none⟩)] w (Done B R n w0 v f o d i (aft d))
variable {B R n : Nat} {w0 : World} {v : Value} {f : Nat → Nat} {w : World} {i d : Nat} {T : List Tk}

set_option maxHeartbeats 4000000 in
theorem list_any {o : Res} {st : Nat} (h : Rd B R n w0 v f w i d T) (hi : i < n) (hb : f i = 40) (hst : st = 0 ∨ st = 1) (hm : Cv f n o st d T i) (hE : ∀ i', i < i' → El B R n w0 v f i') :
    Calls Try.prog 55 #[.pointer (some ⟨R, 0, none⟩)] w (Done B R n w0 v f o d i (aft d)) := by
  obtain ⟨tv, h⟩ := h
  have c2 := h.c2
  have hd5 := h.hd
  have HE := hidden hE
  clear hE
  by_cases h5 : d = 512
  · have hz : ((d : Int) == 512) = true := by simp; omega
    have HO := hidden (l_deep hm hst hi hb h5)
    have cf := fail_any ⟨tv, h⟩ 6
    clear h hm h5
    go_enter Try.func55, Try.ntmps55
    go_wp2_with fail
    refine cf.mono ?_
    rintro e w2 ⟨rfl, h2⟩
    have H2 := hidden h2
    clear cf h2
    go_wp2_with fail
    exact ⟨rfl, Or.inr ⟨6, i, rfl, H2.out.x, HO.out⟩⟩
  · have hz : ((d : Int) == 512) = false := by simp; omega
    have hd51 : d < 512 := by omega
    have fr := h.free 2
    have h2 : RS B R n w0 v f (w.setCell ⟨R, 2, none⟩ (.int .i64 ((d : Int) + 1))) tv i (d + 1) T := by
      have := h.deep (d' := d + 1) (by omega)
      simpa using this
    have cs := sign_yes ⟨tv, h2⟩ 1 (by decide) ⟨#[40]⟩ (by rw [see_1 ⟨tv, h2⟩]; simp [hi, hb])
    have HM := hidden (l_open hm hst hi hb h5)
    clear h h2 hm hb hst h5
    go_enter Try.func55, Try.ntmps55
    go_wp2_with fail
    refine cs.mono ?_
    rintro e w2 ⟨rfl, j, hk, h2⟩
    have HC := hidden (b_skip (by decide) HM.out hk)
    have Hk := hidden hk.2.2.2
    have hij : i < j := by have := hk.1; omega
    have H2 := hidden h2
    clear cs hk h2 HM c2 fr hz
    go_wp2_with fail
    go_loopw [] (fun wr => ∃ j T, i < j ∧ (j < n → isB (f j) = false) ∧ Rd B R n w0 v f wr j (d + 1) T ∧ Cv f n o 1 (d + 1) T j) (fun wr => n - atOf R wr)
    case atStart => exact ⟨j, _, hij, Hk.out, H2.out, HC.out⟩
    case round =>
      clear HC Hk H2 hij
      obtain ⟨j, T8, hij, hnb, hr, hm⟩ := hrel
      have Hnb := hidden hnb
      have HM := hidden hm
      have Hat := hidden hr.at
      have cse := sees_any hr ⟨#[41]⟩
      have hr2 := hr
      clear hnb hm hr
      cases hcl : see f n j ⟨#[41]⟩ with
      | true =>
        rw [hcl] at cse
        have HS := hidden hcl
        rw [see_1 hr2] at hcl
        simp at hcl
        have HCL := hidden (l_close HM.out hcl.1 hcl.2)
        rw [Nat.add_sub_cancel] at HCL
        clear hr2 hcl HM
        go_wp2_with fail
        refine cse.mono ?_
        rintro e w5 ⟨rfl, h5⟩
        have cs := sign_yes h5 2 (by decide) _ HS.out
        clear cse h5 HS
        go_wp2_with fail
        refine cs.mono ?_
        rintro e w8 ⟨rfl, j8, hk8, tv8, h8⟩
        have c28 : w8.cell? ⟨R, 2, none⟩ = some (.int .i64 ((d : Int) + 1)) := by have := h8.c2; rw [this]; congr
        have fr8 := h8.free 2
        have H8 : Hid (RS B R n w0 v f (w8.setCell ⟨R, 2, none⟩ (.int .i64 (d : Nat))) tv8 j8 d (T8 ++ [(2, j, 1)])) := h8.deep (d' := d) (by omega)
        have HK8 := hidden hk8
        have HC8 := hidden (b_skip (aft_ok d) HCL.out hk8)
        clear cs hk8 h8 HCL
        go_wp2_with fail
        go_end0
        refine Or.inl ⟨rfl, j8, _, ?_, HK8.out.2.2.2, ⟨tv8, ?_⟩, HC8.out⟩
        · have := HK8.out.1; omega
        · have := H8.out; simpa using this
      | false =>
        rw [hcl] at cse
        rw [see_1 hr2] at hcl
        have Hcl : Hid (j < n → f j ≠ 41) := fun q => by simpa [q] using hcl
        clear hr2 hcl
        go_wp2_with fail
        refine cse.mono ?_
        rintro e w3 ⟨rfl, h3⟩
        have Hin := hidden h3.hi
        have ce := HE.out j hij w3 (d + 1) _ o 1 h3 (Or.inr rfl) HM.out (fun q => ⟨Hnb.out q, fun _ => Hcl.out q⟩)
        rw [show aft (d + 1) = 1 from rfl] at ce
        clear cse h3 HM Hcl
        go_wp2_with fail
        refine ce.mono ?_
        clear ce
        rintro e w4 hD
        rcases hD with ⟨rfl, j4, T4, hj4, hn4, h4, hm4⟩ | ⟨x, j4, rfl, hx, ho⟩
        · have HM4 := hidden hm4
          have HN4 := hidden hn4
          have H4 := hidden h4
          have Hle := hidden h4.hi
          clear hm4 hn4 h4
          go_wp2_with fail
          go_roundw
          case rel => exact ⟨j4, T4, by omega, HN4.out, H4.out, HM4.out⟩
          case measure => rw [H4.out.at, Hat.out]; have := Hle.out; omega
        · have HX := hidden hx
          have HO := hidden ho
          clear hx ho
          go_wp2_with fail
          exact ⟨rfl, Or.inr ⟨x, j4, rfl, HX.out, HO.out⟩⟩

theorem done_mono {o : Res} {st i j : Nat} {e : Ending} {w : World} (hij : i ≤ j) (h : Done B R n w0 v f o d j st e w) : Done B R n w0 v f o d i st e w := by
  rcases h with ⟨rfl, j4, T4, hj4, h⟩ | h
  · exact Or.inl ⟨rfl, j4, T4, by omega, h⟩
  · exact Or.inr h
set_option maxHeartbeats 4000000 in
theorem exp_step (hE : ∀ i', i < i' → El B R n w0 v f i') : El B R n w0 v f i := by
  intro w d T o st h hst hm hb
  have HE := hidden hE
  have H := hidden h
  have HM := hidden hm
  have HB := hidden hb
  clear hE h hm hb
  go_enter Try.func34, Try.ntmps34
  go_wp2_with fail
  go_loopw [] (fun wr => ∃ j T st, i ≤ j ∧ Rd B R n w0 v f wr j d T ∧ (st = 0 ∨ st = 1) ∧ Cv f n o st d T j ∧ (j < n → isB (f j) = false ∧ (st = 1 → f j ≠ 41))) (fun wr => n - atOf R wr)
  case atStart => exact ⟨i, T, st, Nat.le_refl _, H.out, hst, HM.out, HB.out⟩
  case round =>
    clear H HM HB hst
    obtain ⟨j, T, st, hij, hr, hst, hm, hb⟩ := hrel
    have HM := hidden hm
    have HB := hidden hb
    have Hst := hidden hst
    have Hat := hidden hr.at
    have cs := sees_any hr ⟨#[39, 96, 44]⟩
    clear hm hb hst
    cases hq : see f n j ⟨#[39, 96, 44]⟩ with
    | true =>
      rw [hq] at cs
      rw [see_q3 hr] at hq
      simp at hq
      have Hjl := hidden hq.1
      have Hq : Hid (f j = 39 ∨ f j = 96 ∨ f j = 44) := by have := hq.2; unfold Hid; omega
      clear hr hq
      go_wp2_with fail
      refine cs.mono ?_
      rintro e w3 ⟨rfl, h3⟩
      have ck := quote_any h3 Hjl.out Hq.out Hst.out HM.out
      clear cs h3 HM HB Hst Hq
      go_wp2_with fail
      refine ck.mono ?_
      clear ck
      rintro e w4 hD
      rcases hD with ⟨rfl, j4, T4, hj4, hn4, h4, hm4⟩ | ⟨x, j4, rfl, hx, ho⟩
      · have HM4 := hidden hm4
        have HN4 := hidden hn4
        have H4 := hidden h4
        clear hm4 hn4 h4
        go_wp2_with fail
        go_roundw
        case rel => exact ⟨j4, T4, 0, by omega, H4.out, Or.inl rfl, HM4.out, fun q => ⟨HN4.out q, fun e => by cases e⟩⟩
        case measure => rw [H4.out.at, Hat.out]; have := Hjl.out; omega
      · have HX := hidden hx
        have HO := hidden ho
        clear hx ho
        go_wp2_with fail
        exact ⟨rfl, Or.inr ⟨x, j4, rfl, HX.out, HO.out⟩⟩
    | false =>
      rw [hq] at cs
      rw [see_q3 hr] at hq
      have Hq : Hid (j < n → f j ≠ 39 ∧ f j ≠ 96 ∧ f j ≠ 44) := fun q => by simp [q] at hq; omega
      clear hr hq
      go_wp2_with fail
      refine cs.mono ?_
      rintro e w3 ⟨rfl, h3⟩
      have cs := sees_any h3 ⟨#[40]⟩
      cases h40 : see f n j ⟨#[40]⟩ with
      | true =>
        rw [h40] at cs
        rw [see_1 h3] at h40
        simp at h40
        have H40 := hidden h40
        clear h3 h40
        go_wp2_with fail
        refine cs.mono ?_
        rintro e w4 ⟨rfl, h4⟩
        have ck := list_any h4 H40.out.1 H40.out.2 Hst.out HM.out (fun i' hi' => HE.out i' (by omega))
        clear cs h4 HM HB Hst Hq H40
        go_wp2_with fail
        refine ck.mono ?_
        clear ck
        rintro e w5 hD
        have HD := hidden (done_mono hij hD)
        rcases hD with ⟨rfl, hD⟩ | ⟨x, j, rfl, hD⟩
        · clear hD
          go_wp2_with fail
          go_end0
          exact HD.out
        · clear hD
          go_wp2_with fail
          exact ⟨rfl, HD.out⟩
      | false =>
        rw [h40] at cs
        rw [see_1 h3] at h40
        have H40 : Hid (j < n → f j ≠ 40) := fun q => by simpa [q] using h40
        clear h3 h40
        go_wp2_with fail
        refine cs.mono ?_
        rintro e w4 ⟨rfl, h4⟩
        have cs := sees_any h4 ⟨#[34]⟩
        cases h34 : see f n j ⟨#[34]⟩ with
        | true =>
          rw [h34] at cs
          rw [see_1 h4] at h34
          simp at h34
          have H34 := hidden h34
          clear h4 h34
          go_wp2_with fail
          refine cs.mono ?_
          rintro e w4 ⟨rfl, h4⟩
          have ck := quoted_any h4 H34.out.1 H34.out.2 Hst.out HM.out
          clear cs h4 HM HB Hst Hq H40 H34
          go_wp2_with fail
          refine ck.mono ?_
          clear ck
          rintro e w5 hD
          have HD := hidden (done_mono hij hD)
          rcases hD with ⟨rfl, hD⟩ | ⟨x, j, rfl, hD⟩
          · clear hD
            go_wp2_with fail
            go_end0
            exact HD.out
          · clear hD
            go_wp2_with fail
            exact ⟨rfl, HD.out⟩
        | false =>
          rw [h34] at cs
          rw [see_1 h4] at h34
          have H34 : Hid (j < n → f j ≠ 34) := fun q => by simpa [q] using h34
          clear h4 h34
          go_wp2_with fail
          refine cs.mono ?_
          rintro e w5 ⟨rfl, h5⟩
          have ck : Calls Try.prog 57 #[.pointer (some ⟨R, 0, none⟩)] w5 (Done B R n w0 v f o d j (aft d)) := by
            have no := fun hn => atom_no h5 Hst.out HM.out HB.out (fun q => by have := Hq.out q; have := H40.out q; have := H34.out q; omega) hn
            cases h64 : see f n j ⟨#[64]⟩ with
            | true => exact no (Or.inl h64)
            | false =>
              cases hw : wth f n j with
              | true => exact atom_yes h5 Hst.out HM.out h64 hw
              | false => exact no (Or.inr ⟨h64, hw⟩)
          clear cs h5 HM HB Hst Hq H40 H34
          go_wp2_with fail
          refine ck.mono ?_
          clear ck
          rintro e w5 hD
          have HD := hidden (done_mono hij hD)
          rcases hD with ⟨rfl, hD⟩ | ⟨x, j, rfl, hD⟩
          · clear hD
            go_wp2_with fail
            go_end0
            exact HD.out
          · clear hD
            go_wp2_with fail
            exact ⟨rfl, HD.out⟩
theorem exp_far : ∀ (m i : Nat), n + 1 - i ≤ m → El B R n w0 v f i
  | 0, i, h => fun w d T o st hr => by have := hr.hi; omega
  | m + 1, i, h => exp_step fun i' hi' => by
    by_cases q : n + 1 - i' ≤ m
    · exact exp_far m i' q
    · exact absurd h (by omega)
theorem exp_any : El B R n w0 v f i := exp_far _ i (Nat.le_refl _)
end Go.Proofs.PlatenSexp

/- What the reader's deferred function comes to. -/
namespace Go.Proofs.PlatenSexp
open Go Go.RowKit
set_option linter.unusedVariables false
set_option maxRecDepth 100000

set_option maxHeartbeats 2000000 in
theorem catch_panicking (A E : Nat) (i x : Int) (older : List PanicEntry) (w : World)
    (hA : w.cell? ⟨A, 0, none⟩ = some (.int .i64 0)) (hE : w.cell? ⟨E, 0, none⟩ = some (.int .i64 0)) (fA : w.frozen? ⟨A, 0, none⟩ = false) (fE : w.frozen? ⟨E, 0, none⟩ = false) (hne : A ≠ E) :
    CallsD Try.prog 32 #[.pointer (some ⟨A, 0, none⟩), .pointer (some ⟨E, 0, none⟩)] (.panicking ({ v := .iface 62 (.agg #[.int .i64 i, .int .i64 x]), recovered := false } :: older)) w fun e u' w' =>
      e = .returned (.tuple #[]) ∧ u' = .panicking ({ v := .iface 62 (.agg #[.int .i64 i, .int .i64 x]), recovered := true } :: older) ∧ w' = (((w.setCell ⟨A, 0, none⟩ (.int .i64 i)).setCell ⟨E, 0, none⟩ (.int .i64 x)).alloc (.cells #[.int .i64 i, .int .i64 x] 62)).drew := by
  have hta : ∀ u : World, (Instr.typeAssert (.iface 62 (.agg #[.int .i64 i, .int .i64 x])) 20 62 true).run Try.prog u = .ok (.tuple #[.agg #[.int .i64 i, .int .i64 x], .bool true]) u := fun u => by
    simp [Instr.typeAssert, run_underlying Try.underlying62, go_sem, Result.andThen]
  refine callsD_of_wpS Try.func32 rfl fun c₀ cs hu => ?_
  apply wpS_seq
  apply wpS_region
  simp [wpOpsS, go_sem, recoverD, hu, Try.ntmps32, Exit.thenS]
  apply wpS_seq
  apply wpS_region
  simp [wpOpsS, go_sem, Exit.thenS, hta]
  apply wpS_seq
  apply wpS_region
  simp [wpOpsS, go_sem, Exit.thenS]
  refine wpS_cond (t := true) (by simp [Act.eval, Array.replicate]) ?_
  simp only [if_true]
  refine wpS_of_wp ?_
  have lA := World.block_lt_of_cell? _ _ hA
  have lE := World.block_lt_of_cell? _ _ hE
  simp only at lA lE
  have hA2 : ∀ o, (w.alloc o).cell? ⟨A, 0, none⟩ = some (.int .i64 0) := fun o => (World.cell?_of_block (w := w) (Below.heap_alloc w o A lA)).trans hA
  have hE2 : ∀ o, (w.alloc o).cell? ⟨E, 0, none⟩ = some (.int .i64 0) := fun o => (World.cell?_of_block (w := w) (Below.heap_alloc w o E lE)).trans hE
  have fA2 : ∀ o, (w.alloc o).frozen? ⟨A, 0, none⟩ = false := fun o => (World.frozen?_of_block (w := w) (Below.heap_alloc w o A lA)).trans fA
  have fE2 : ∀ o, (w.alloc o).frozen? ⟨E, 0, none⟩ = false := fun o => (World.frozen?_of_block (w := w) (Below.heap_alloc w o E lE)).trans fE
  have n0 : (w.alloc (Obj.cells #[Value.int IntKind.i64 i, Value.int IntKind.i64 x] 62)).cell? ⟨w.heap.size, 0, none⟩ = some (.int .i64 i) := by simp
  have n1 : (w.alloc (Obj.cells #[Value.int IntKind.i64 i, Value.int IntKind.i64 x] 62)).cell? ⟨w.heap.size, 1, none⟩ = some (.int .i64 x) := by simp
  have z1 : A ≠ w.heap.size := by omega
  have z2 : E ≠ w.heap.size := by omega
  simp only [Array.replicate, List.replicate, List.setIfInBounds_toArray, List.set_cons_zero, List.set_cons_succ, List.append_toArray, List.cons_append, List.nil_append]
  go_region
  all_goals simp [bodyPostS, results, Try.results32]

set_option maxHeartbeats 1000000 in
theorem catch_idle (a b : Value) (w : World) :
    CallsD Try.prog 32 #[a, b] .returning w fun e u' w' => e = .returned (.tuple #[]) ∧ u' = .returning ∧ w' = w.alloc (.cells #[.int .i64 0, .int .i64 0] 62) := by
  have hta : ∀ u : World, (Instr.typeAssert .nilIface 20 62 true).run Try.prog u = .ok (.tuple #[.agg #[.int .i64 0, .int .i64 0], .bool false]) u := fun u => by
    simp [Instr.typeAssert, run_underlying Try.underlying62, go_sem, Result.andThen]
  refine callsD_of_wpS Try.func32 rfl fun c₀ cs hu => ?_
  apply wpS_seq
  apply wpS_region
  simp [wpOpsS, go_sem, recoverD, hu, Try.ntmps32, Exit.thenS]
  apply wpS_seq
  apply wpS_region
  simp [wpOpsS, go_sem, Exit.thenS, hta]
  apply wpS_seq
  apply wpS_region
  simp [wpOpsS, go_sem, Exit.thenS]
  refine wpS_cond (t := false) (by simp [Act.eval, Array.replicate]) ?_
  simp only [Bool.false_eq_true, if_false]
  apply wpS_seq
  apply wpS_region
  simp [wpOpsS, go_sem, Exit.thenS]
  refine wpS_cond (t := false) (by simp [Act.eval, Array.replicate]) ?_
  simp only [Bool.false_eq_true, if_false]
  refine wpS_of_wp (wp_skip ?_)
  cases c₀
  simp_all [bodyPostS, results, Try.results32]
end Go.Proofs.PlatenSexp

/- What Read comes to. -/
namespace Go.Proofs.PlatenSexp
open Go Go.RowKit
set_option linter.unusedVariables false
set_option maxRecDepth 100000

/-- n bytes at hand. -/
def Row (w : World) (v : Value) (n : Nat) (f : Nat → Nat) : Prop :=
  ∃ a cap, v = .slice a n cap ∧ (0 < n → ∃ b off, a = some ⟨b, off, none⟩ ∧ n ≤ cap ∧ ∀ j, j < n → w.cell? ⟨b, off + j, none⟩ = some (.int .u8 (f j)))
theorem Row.below {w w' : World} {v : Value} {n : Nat} {f : Nat → Nat} (h : Row w v n f) (hb : Below w.heap.size w w') : Row w' v n f := by
  obtain ⟨a, cap, rfl, h⟩ := h
  refine ⟨a, cap, rfl, fun hn => ?_⟩
  obtain ⟨b, off, rfl, hc, hr⟩ := h hn
  refine ⟨b, off, rfl, hc, fun j hj => ?_⟩
  have := hr j hj
  rw [hb.cell (p := ⟨b, off + j, none⟩) (World.block_lt_of_cell? _ _ this)]
  exact this

/-- Tokens at hand. -/
def IsTk (w : World) (v : Value) (T : List Tk) : Prop :=
  ∃ a cap, v = .slice a T.length cap ∧ (0 < T.length → ∃ g, a = some ⟨g, 0, none⟩ ∧ T.length ≤ cap ∧ ∀ i, i < T.length → w.cell? ⟨g, i * 3, none⟩ = some (.int .u8 ((T.getD i (0, 0, 0)).1 : Nat)) ∧ w.cell? ⟨g, i * 3 + 1, none⟩ = some (.int .i64 ((T.getD i (0, 0, 0)).2.1 : Nat)) ∧ w.cell? ⟨g, i * 3 + 2, none⟩ = some (.int .i64 ((T.getD i (0, 0, 0)).2.2 : Nat)))
theorem IsTk.below {w w' : World} {v : Value} {T : List Tk} (h : IsTk w v T) (hb : Below w.heap.size w w') : IsTk w' v T := by
  obtain ⟨a, cap, rfl, h⟩ := h
  refine ⟨a, cap, rfl, fun hl => ?_⟩
  obtain ⟨g, rfl, hc, hr⟩ := h hl
  refine ⟨g, rfl, hc, fun i hi => ?_⟩
  obtain ⟨h1, h2, h3⟩ := hr i hi
  rw [hb.cell (p := ⟨g, i * 3, none⟩) (World.block_lt_of_cell? _ _ h1), hb.cell (p := ⟨g, i * 3 + 1, none⟩) (World.block_lt_of_cell? _ _ h2), hb.cell (p := ⟨g, i * 3 + 2, none⟩) (World.block_lt_of_cell? _ _ h3)]
  exact ⟨h1, h2, h3⟩
theorem rowT_get : ∀ (l : List Tk) (i : Nat), i < l.length → (rowT l)[i * 3]? = some (.int .u8 ((l.getD i (0, 0, 0)).1 : Nat)) ∧ (rowT l)[i * 3 + 1]? = some (.int .i64 ((l.getD i (0, 0, 0)).2.1 : Nat)) ∧ (rowT l)[i * 3 + 2]? = some (.int .i64 ((l.getD i (0, 0, 0)).2.2 : Nat))
  | [], i, h => absurd h (Nat.not_lt_zero _)
  | p :: t, 0, _ => by simp [rowT]
  | p :: t, i + 1, h => by
    have ih := rowT_get t i (by simpa using h)
    have e : rowT (p :: t) = [.int .u8 (p.1 : Nat), .int .i64 (p.2.1 : Nat), .int .i64 (p.2.2 : Nat)] ++ rowT t := by simp [rowT]
    rw [e, List.getElem?_append_right (by simp; omega), List.getElem?_append_right (by simp; omega), List.getElem?_append_right (by simp; omega)]
    simp only [List.length_cons, List.length_nil]
    rw [show (i + 1) * 3 - (0 + 1 + 1 + 1) = i * 3 by omega, show (i + 1) * 3 + 1 - (0 + 1 + 1 + 1) = i * 3 + 1 by omega, show (i + 1) * 3 + 2 - (0 + 1 + 1 + 1) = i * 3 + 2 by omega]
    simpa using ih
theorem isTk_of {w : World} {base : Nat} {v : Value} {T : List Tk} (h : w.ownsRow base 47 3 v T.length (rowT T)) : IsTk w v T := by
  have hcl := fun g => h.cells (g := g)
  rcases h.2 with ⟨rfl, h0⟩ | ⟨g, cap, cur, rfl, hbg, hg, hnc, hcm, hcs, htake⟩
  · exact ⟨none, 0, by rw [h0], fun hl => by omega⟩
  · refine ⟨_, cap, rfl, fun _ => ⟨g, rfl, hnc, fun i hi => ?_⟩⟩
    obtain ⟨h1, h2, h3⟩ := rowT_get T i hi
    have g1 := hcl g rfl _ _ h1
    have g2 := hcl g rfl _ _ h2
    have g3 := hcl g rfl _ _ h3
    have ea : ∀ j, (⟨g, 0, none⟩ : Addr).add j = ⟨g, j, none⟩ := fun j => by unfold Addr.add; split <;> simp_all
    rw [ea] at g1 g2 g3
    exact ⟨g1, g2, g3⟩
theorem isTk_nil (w : World) : IsTk w (.slice none 0 0) [] := ⟨none, 0, rfl, fun h => absurd h (by simp)⟩

theorem RS.keep {B R n : Nat} {w0 : World} {v : Value} {f : Nat → Nat} {w : World} {tv : Value} {i d : Nat} {T : List Tk} (h : RS B R n w0 v f w tv i d T) {k : Nat} (hk : k < B) (hR : k ≠ R) (j : Nat) : w.cell? ⟨k, j, none⟩ = w0.cell? ⟨k, j, none⟩ ∧ w.frozen? ⟨k, j, none⟩ = w0.frozen? ⟨k, j, none⟩ :=
  ⟨World.cell?_of_block (w := w0) (h.block k hk hR), World.frozen?_of_block (w := w0) (h.block k hk hR)⟩
/-- The variables around the reader. -/
def Vs (s : Nat) (w : World) : Prop := w.cell? ⟨s, 0, none⟩ = some (.int .i64 0) ∧ w.cell? ⟨s + 1, 0, none⟩ = some (.int .i64 0) ∧ w.frozen? ⟨s, 0, none⟩ = false ∧ w.frozen? ⟨s + 1, 0, none⟩ = false
theorem RS.vs {s n : Nat} {w0 : World} {v : Value} {f : Nat → Nat} {w : World} {tv : Value} {i d : Nat} {T : List Tk} (h : RS (s + 1 + 1 + 1) (s + 1 + 1) n w0 v f w tv i d T) (hv : Vs s w0) : Vs s w := by
  obtain ⟨a, b, d, e⟩ := hv
  refine ⟨?_, ?_, ?_, ?_⟩
  · rw [(h.keep (k := s) (by omega) (by omega) 0).1]; exact a
  · rw [(h.keep (k := s + 1) (by omega) (by omega) 0).1]; exact b
  · rw [(h.keep (k := s) (by omega) (by omega) 0).2]; exact d
  · rw [(h.keep (k := s + 1) (by omega) (by omega) 0).2]; exact e
theorem RS.below {s n : Nat} {w w0 : World} {v : Value} {f : Nat → Nat} {w' : World} {tv : Value} {i d : Nat} {T : List Tk} (h : RS (s + 1 + 1 + 1) (s + 1 + 1) n w0 v f w' tv i d T) (hb : Below s w w0) : Below s w w' :=
  hb.trans ⟨h.os, h.tape, h.output, h.sz, fun k hk => h.block k (by omega) (by omega)⟩
theorem boxes {s : Nat} {w : World} {x y : Int} {a b : Value} (hA : w.cell? ⟨s, 0, none⟩ = some a) (hE : w.cell? ⟨s + 1, 0, none⟩ = some b) :
    ((w.setCell ⟨s, 0, none⟩ (.int .i64 x)).setCell ⟨s + 1, 0, none⟩ (.int .i64 y)).cell? ⟨s, 0, none⟩ = some (.int .i64 x) ∧ ((w.setCell ⟨s, 0, none⟩ (.int .i64 x)).setCell ⟨s + 1, 0, none⟩ (.int .i64 y)).cell? ⟨s + 1, 0, none⟩ = some (.int .i64 y) := by
  constructor
  · rw [World.cell?_setCell_far _ _ _ _ (by simp)]
    exact World.cell?_setCell_same _ _ _ hA
  · refine World.cell?_setCell_same _ _ _ (u := b) ?_
    rw [World.cell?_setCell_far _ _ _ _ (by simp)]
    exact hE
theorem boxes_below {s : Nat} {w w' : World} (h : Below s w w') (x y : Value) : Below s w ((w'.setCell ⟨s, 0, none⟩ x).setCell ⟨s + 1, 0, none⟩ y) :=
  (h.setCell (p := ⟨s, 0, none⟩) (Nat.le_refl _) x).setCell (p := ⟨s + 1, 0, none⟩) (Nat.le_succ _) y
/-- .. with a new block behind it. -/
theorem boxes_alloc {s : Nat} {W : World} {a b : Value} (o : Obj) (h : W.cell? ⟨s, 0, none⟩ = some a ∧ W.cell? ⟨s + 1, 0, none⟩ = some b) : (W.alloc o).cell? ⟨s, 0, none⟩ = some a ∧ (W.alloc o).cell? ⟨s + 1, 0, none⟩ = some b := by
  have l1 := World.block_lt_of_cell? _ _ h.1
  have l2 := World.block_lt_of_cell? _ _ h.2
  simp only at l1 l2
  exact ⟨(World.cell?_of_block (w := W) (Below.heap_alloc W o s l1)).trans h.1, (World.cell?_of_block (w := W) (Below.heap_alloc W o (s + 1) l2)).trans h.2⟩
/-- What Read answers. -/
def RdP (w : World) (o : Res) (e : Ending) (w' : World) : Prop :=
  ∃ tv, e = .returned (.tuple #[tv, .int .i64 (o.2.1 : Nat), .int .i64 (o.2.2 : Nat)]) ∧ IsTk w' tv o.1 ∧ Below w.heap.size w w'

set_option maxHeartbeats 4000000 in
theorem read_any (v : Value) (n : Nat) (f : Nat → Nat) (w : World) (hf : ∀ j, f j < 256) (hn : n ≤ 100000) (h : Row w v n f) :
    Calls Try.prog 22 #[v] w (RdP w (ans f n)) := by
  have hmf : ∀ (fn : Fn) (first cap : Array Value) (w : World), (Instr.makeFunc fn first cap).run Try.prog w = .ok (.func fn first cap) w := fun _ _ _ _ => rfl
  have HC := hidden (begins f n)
  generalize ans f n = o at *
  obtain ⟨a, cap, rfl, h⟩ := h
  have hr0 : ∀ W, W = ((w.alloc (Obj.cells #[Value.int IntKind.i64 0] 3)).alloc (Obj.cells #[Value.int IntKind.i64 0] 25)).alloc (Obj.cells #[Value.slice a n cap, Value.int IntKind.i64 0, Value.int IntKind.i64 0, Value.slice none 0 0] 66) →
      RS (w.heap.size + 1 + 1 + 1) (w.heap.size + 1 + 1) n W (.slice a n cap) f W (.slice none 0 0) 0 0 [] ∧ W.cell? ⟨w.heap.size, 0, none⟩ = some (.int .i64 0) ∧ W.cell? ⟨w.heap.size + 1, 0, none⟩ = some (.int .i64 0) ∧ W.frozen? ⟨w.heap.size, 0, none⟩ = false ∧ W.frozen? ⟨w.heap.size + 1, 0, none⟩ = false ∧ Below w.heap.size w W := by
    rintro W hW
    have e0 : W.heap[w.heap.size]? = some (Obj.cells #[Value.int IntKind.i64 0] 3) := by
      rw [hW, Below.heap_alloc _ _ _ (by simp; omega), Below.heap_alloc _ _ _ (by simp)]
      exact heap_alloc_new _ _
    have e1 : W.heap[w.heap.size + 1]? = some (Obj.cells #[Value.int IntKind.i64 0] 25) := by
      rw [hW, Below.heap_alloc _ _ _ (by simp)]
      have := heap_alloc_new (w.alloc (Obj.cells #[Value.int IntKind.i64 0] 3)) (Obj.cells #[Value.int IntKind.i64 0] 25)
      simpa using this
    have e2 : W.heap[w.heap.size + 1 + 1]? = some (Obj.cells #[Value.slice a n cap, Value.int IntKind.i64 0, Value.int IntKind.i64 0, Value.slice none 0 0] 66) := by
      have := heap_alloc_new ((w.alloc (Obj.cells #[Value.int IntKind.i64 0] 3)).alloc (Obj.cells #[Value.int IntKind.i64 0] 25)) (Obj.cells #[Value.slice a n cap, Value.int IntKind.i64 0, Value.int IntKind.i64 0, Value.slice none 0 0] 66)
      rw [hW]
      simpa using this
    have hb : Below w.heap.size w W := by
      rw [hW]
      exact (((Below.refl _ w).alloc (Nat.le_refl _) _).alloc (by simp) _).alloc (by simp; omega) _
    have hsz : W.heap.size = w.heap.size + 1 + 1 + 1 := by rw [hW]; simp
    refine ⟨⟨hn, hf, by omega, by omega, Nat.zero_le _, by omega, e2, World.ownsRow_nil _ _ _ _, Nat.le_refl _, rfl, rfl, rfl, Nat.le_refl _, fun _ _ _ => rfl, a, cap, rfl, fun hp => ?_⟩, by simp [World.cell?, e0], by simp [World.cell?, e1], frozen_of_row _ _ _ _ 3 e0, frozen_of_row _ _ _ _ 25 e1, hb⟩
    obtain ⟨b, off, rfl, hc, hr⟩ := h hp
    have hbl := World.block_lt_of_cell? _ _ (hr 0 hp)
    simp only at hbl
    refine ⟨b, off, rfl, hc, by omega, by omega, fun j hj => ?_⟩
    rw [hb.cell (p := ⟨b, off + j, none⟩) hbl]
    exact hr j hj
  have Hr0 := hidden hr0
  clear hr0
  have Hf := hidden hf
  clear h hf
  go_enter_defers Try.func22, Try.ntmps22
  go_wp2_with fail
  obtain ⟨h0, cA, cE, fA, fE, hB⟩ := Hr0.out _ rfl
  clear Hr0
  generalize ((w.alloc (Obj.cells #[Value.int IntKind.i64 0] 3)).alloc (Obj.cells #[Value.int IntKind.i64 0] 25)).alloc (Obj.cells #[Value.slice a n cap, Value.int IntKind.i64 0, Value.int IntKind.i64 0, Value.slice none 0 0] 66) = W at *
  have HVs : Hid (Vs w.heap.size W) := ⟨cA, cE, fA, fE⟩
  have HB := hidden hB
  have cb := blanks_any ⟨_, h0⟩
  clear cA cE fA fE hB h0
  refine cb.mono ?_
  clear cb
  rintro e w1 ⟨rfl, j1, hk1, h1⟩
  have cv := exp_any (i := j1) w1 0 [] o 0 h1 (Or.inl rfl) (b_skip (by decide) HC.out hk1) (fun q => ⟨hk1.2.2.2 q, fun e => by cases e⟩)
  rw [show aft 0 = 6 from rfl] at cv
  clear hk1 h1 HC
  go_wp2_with fail
  refine cv.mono ?_
  clear cv
  rintro e w2 hD
  rcases hD with ⟨rfl, j, T, hj, hnb, ⟨tv, h2⟩, hm⟩ | ⟨x, j, rfl, ⟨d, T, tv, h2⟩, ho⟩
  · by_cases hjn : j < n
    · have HO := hidden (top_bad hm hjn (hnb hjn))
      have c1 := h2.c1
      have hlz : (j : Int) < (n : Int) := by omega
      have cf := fail_any ⟨tv, h2⟩ 5
      clear hm hnb h2
      go_wp2_with fail
      refine cf.mono ?_
      clear cf c1
      rintro e w2 ⟨rfl, tv, h2⟩
      have H2 := hidden h2
      obtain ⟨cA, cE, fA, fE⟩ := h2.vs HVs.out
      clear h2
      go_wp2_with fail
      refine leaves_cons (f := 32) (args := #[.pointer (some ⟨w.heap.size, 0, none⟩), .pointer (some ⟨w.heap.size + 1, 0, none⟩)]) (by simp) (by simp [go_sem]) ?_
      refine (catch_panicking w.heap.size (w.heap.size + 1) j 5 [] w2 cA cE fA fE (by omega)).mono ?_
      rintro e u' w3 ⟨rfl, rfl, hw3⟩
      obtain ⟨dA, dE⟩ := boxes_alloc (.cells #[.int .i64 j, .int .i64 5] 62) (boxes (x := j) (y := 5) cA cE)
      have hsz2 : w.heap.size ≤ ((w2.setCell ⟨w.heap.size, 0, none⟩ (.int .i64 j)).setCell ⟨w.heap.size + 1, 0, none⟩ (.int .i64 5)).heap.size := (boxes_below (H2.out.below HB.out) (.int .i64 j) (.int .i64 5)).size
      have hbb := ((boxes_below (H2.out.below HB.out) (.int .i64 j) (.int .i64 5)).alloc hsz2 (.cells #[.int .i64 j, .int .i64 5] 62)).drew
      have dA3 : w3.cell? ⟨w.heap.size, 0, none⟩ = some (.int .i64 j) := by rw [hw3]; exact dA
      have dE3 : w3.cell? ⟨w.heap.size + 1, 0, none⟩ = some (.int .i64 5) := by rw [hw3]; exact dE
      rw [← hw3] at hbb
      clear hw3 dA dE hsz2
      simp only [settle]
      refine ⟨.tuple #[.slice none 0 0, .int .i64 j, .int .i64 5], by simp [results, Try.results22, go_sem, dA3, dE3], ?_⟩
      rw [HO.out]
      exact ⟨_, rfl, isTk_nil _, hbb⟩
    · obtain rfl : j = n := by have := h2.hi; omega
      have HO := hidden (top_ok hm)
      have H2 := hidden h2
      have c1 := h2.c1
      have c3 := h2.c3
      have hlz : ¬ ((j : Int) < (j : Int)) := by omega
      obtain ⟨cA, cE, fA, fE⟩ := h2.vs HVs.out
      clear hm hnb h2
      go_wp2_with fail
      refine leaves_cons (f := 32) (args := #[.pointer (some ⟨w.heap.size, 0, none⟩), .pointer (some ⟨w.heap.size + 1, 0, none⟩)]) (by simp) (by simp [go_sem]) ?_
      refine (catch_idle _ _ _).mono ?_
      rintro e u' w3 ⟨rfl, rfl, hw3⟩
      obtain ⟨dA, dE⟩ := boxes_alloc (.cells #[.int .i64 0, .int .i64 0] 62) (boxes (x := 0) (y := 0) cA cE)
      have hsz2 : w.heap.size ≤ ((w2.setCell ⟨w.heap.size, 0, none⟩ (.int .i64 0)).setCell ⟨w.heap.size + 1, 0, none⟩ (.int .i64 0)).heap.size := (boxes_below (H2.out.below HB.out) (.int .i64 0) (.int .i64 0)).size
      have hbb := (boxes_below (H2.out.below HB.out) (.int .i64 0) (.int .i64 0)).alloc hsz2 (.cells #[.int .i64 0, .int .i64 0] 62)
      have hrow := row_same H2.out.row (w' := w3) (fun k hk => by
        have h1 := (H2.out.row.lt k hk).1
        have h2 := (H2.out.row.lt k hk).2
        rw [hw3, Below.heap_alloc _ _ _ (by simpa using h2), heap_setCell_other _ _ _ _ (by simp; omega), heap_setCell_other _ _ _ _ (by simp; omega)])
      have dA3 : w3.cell? ⟨w.heap.size, 0, none⟩ = some (.int .i64 0) := by rw [hw3]; exact dA
      have dE3 : w3.cell? ⟨w.heap.size + 1, 0, none⟩ = some (.int .i64 0) := by rw [hw3]; exact dE
      rw [← hw3] at hbb
      clear hw3 dA dE hsz2
      simp only [Leaves, settle]
      refine ⟨.tuple #[tv, .int .i64 0, .int .i64 0], by simp [results, Try.results22, go_sem, dA3, dE3], ?_⟩
      rw [HO.out]
      exact ⟨_, rfl, isTk_of hrow, hbb⟩
  · have HO := hidden ho
    have H2 := hidden h2
    obtain ⟨cA, cE, fA, fE⟩ := h2.vs HVs.out
    clear ho h2
    go_wp2_with fail
    refine leaves_cons (f := 32) (args := #[.pointer (some ⟨w.heap.size, 0, none⟩), .pointer (some ⟨w.heap.size + 1, 0, none⟩)]) (by simp) (by simp [go_sem]) ?_
    refine (catch_panicking w.heap.size (w.heap.size + 1) j x [] w2 cA cE fA fE (by omega)).mono ?_
    rintro e u' w3 ⟨rfl, rfl, hw3⟩
    obtain ⟨dA, dE⟩ := boxes_alloc (.cells #[.int .i64 j, .int .i64 x] 62) (boxes (x := j) (y := x) cA cE)
    have hsz2 : w.heap.size ≤ ((w2.setCell ⟨w.heap.size, 0, none⟩ (.int .i64 j)).setCell ⟨w.heap.size + 1, 0, none⟩ (.int .i64 x)).heap.size := (boxes_below (H2.out.below HB.out) (.int .i64 j) (.int .i64 x)).size
    have hbb := ((boxes_below (H2.out.below HB.out) (.int .i64 j) (.int .i64 x)).alloc hsz2 (.cells #[.int .i64 j, .int .i64 x] 62)).drew
    have dA3 : w3.cell? ⟨w.heap.size, 0, none⟩ = some (.int .i64 j) := by rw [hw3]; exact dA
    have dE3 : w3.cell? ⟨w.heap.size + 1, 0, none⟩ = some (.int .i64 x) := by rw [hw3]; exact dE
    rw [← hw3] at hbb
    clear hw3 dA dE hsz2
    simp only [settle]
    refine ⟨.tuple #[.slice none 0 0, .int .i64 j, .int .i64 x], by simp [results, Try.results22, go_sem, dA3, dE3], ?_⟩
    rw [HO.out]
    exact ⟨_, rfl, isTk_nil _, hbb⟩
end Go.Proofs.PlatenSexp

/- The document's machine in memory; what its token, done, part and start come to. -/
namespace Go.Proofs.PlatenSexp
open Go Go.RowKit
set_option linter.unusedVariables false
set_option maxRecDepth 100000

/-- The machine at block K, with all its own blocks from B on. -/
structure MS (B K : Nat) (w0 w : World) (lv : Value) (st dep fr : Nat) (T : List Tk) : Prop where
  low : B ≤ K
  bs : B ≤ w.heap.size
  head : w.heap[K]? = some (.cells #[.int .u8 (st : Nat), .int .i64 (dep : Nat), .int .i64 (fr : Nat), lv] 73 (0, 0))
  lrow : w.ownsRow B 47 3 lv T.length (rowT T)
  bel : Below B w0 w
def MM (B K : Nat) (w0 w : World) (M : Sm) : Prop := ∃ lv, MS B K w0 w lv M.st M.dep M.fr M.l

section
variable {B K : Nat} {w0 w w' : World} {lv : Value} {st dep fr : Nat} {T : List Tk}
theorem MS.lt (h : MS B K w0 w lv st dep fr T) : K < w.heap.size := (Array.getElem?_eq_some_iff.1 h.head).1
theorem MS.c0 (h : MS B K w0 w lv st dep fr T) : w.cell? ⟨K, 0, none⟩ = some (.int .u8 (st : Nat)) := by simp [World.cell?, h.head]
theorem MS.c1 (h : MS B K w0 w lv st dep fr T) : w.cell? ⟨K, 1, none⟩ = some (.int .i64 (dep : Nat)) := by simp [World.cell?, h.head]
theorem MS.c2 (h : MS B K w0 w lv st dep fr T) : w.cell? ⟨K, 2, none⟩ = some (.int .i64 (fr : Nat)) := by simp [World.cell?, h.head]
theorem MS.c3 (h : MS B K w0 w lv st dep fr T) : w.cell? ⟨K, 3, none⟩ = some lv := by simp [World.cell?, h.head]
theorem MS.free (h : MS B K w0 w lv st dep fr T) (j : Nat) : w.frozen? ⟨K, j, none⟩ = false := frozen_of_row w K j _ 73 h.head
theorem MS.lown (h : MS B K w0 w lv st dep fr T) : lv.ownBlock ≠ some K := row_head h.lrow h.head (by decide)
theorem MS.grown (h : MS B K w0 w lv st dep fr T) (hg : w.grownBy w' none) : MS B K w0 w' lv st dep fr T where
  low := h.low
  bs := Nat.le_trans h.bs hg.size
  head := (hg.block K h.lt (by simp)).trans h.head
  lrow := row_same h.lrow (fun k hk => hg.block k (h.lrow.lt k hk).2 (by simp))
  bel := h.bel.grown hg h.bs (by simp)
/-- One of its own cells has changed, but no row. -/
theorem MS.store (h : MS B K w0 w lv st dep fr T) {c : Nat} {u : Value} {st' dep' fr' : Nat}
    (hc : #[.int .u8 (st : Nat), .int .i64 (dep : Nat), .int .i64 (fr : Nat), lv].set! c u = #[.int .u8 (st' : Nat), .int .i64 (dep' : Nat), .int .i64 (fr' : Nat), lv]) :
    MS B K w0 (w.setCell ⟨K, c, none⟩ u) lv st' dep' fr' T where
  low := h.low
  bs := by simpa using h.bs
  head := by rw [← hc]; exact heap_setCell_same w K c _ 73 u h.head
  lrow := row_same h.lrow (fun k hk => heap_setCell_other _ _ _ _ (fun e => h.lown (by rw [hk, e])))
  bel := h.bel.setCell (p := ⟨K, c, none⟩) h.low u
theorem MS.state (h : MS B K w0 w lv st dep fr T) (s : Nat) : MS B K w0 (w.setCell ⟨K, 0, none⟩ (.int .u8 (s : Nat))) lv s dep fr T := h.store (by simp)
theorem MS.deep (h : MS B K w0 w lv st dep fr T) (s : Nat) : MS B K w0 (w.setCell ⟨K, 1, none⟩ (.int .i64 (s : Nat))) lv st s fr T := h.store (by simp)
theorem MS.from' (h : MS B K w0 w lv st dep fr T) (s : Nat) : MS B K w0 (w.setCell ⟨K, 2, none⟩ (.int .i64 (s : Nat))) lv st dep s T := h.store (by simp)
/-- A token more. -/
theorem MS.push (h : MS B K w0 w lv st dep fr T) {w3 : World} {v' : Value} {t : Tk} (hr : w3.ownsRow B 47 3 v' (T.length + 1) (rowT T ++ rowT [t])) (hg : w.grownBy w3 lv.ownBlock) :
    MS B K w0 (w3.setCell ⟨K, 3, none⟩ v') v' st dep fr (T ++ [t]) where
  low := h.low
  bs := by simpa using Nat.le_trans h.bs hg.size
  head := by
    have hh3 := (hg.block K h.lt (fun e => h.lown e.symm)).trans h.head
    have := heap_setCell_same w3 K 3 _ 73 v' hh3
    simpa using this
  lrow := by
    have hh3 := (hg.block K h.lt (fun e => h.lown e.symm)).trans h.head
    have n2 := row_head hr hh3 (by decide)
    rw [List.length_append, List.length_singleton, rowT_app]
    exact row_same hr (fun k hk => heap_setCell_other _ _ _ _ (fun e => n2 (by rw [hk, e])))
  bel := (h.bel.grown hg h.bs (fun k e => (h.lrow.lt k e).1)).setCell (p := ⟨K, 3, none⟩) h.low _
end
set_option maxHeartbeats 2000000 in
theorem mtoken {B K : Nat} {w0 w : World} {M : Sm} (h : MM B K w0 w M) (k s t : Nat) (hst : s ≤ t) (ht : t ≤ 1000000) (hT : M.l.length ≤ 1000000) :
    Calls Try.prog 40 #[.pointer (some ⟨K, 0, none⟩), .int .u8 (k : Nat), .int .i64 (s : Nat), .int .i64 (t : Nat)] w fun e w' => e = .returned (.tuple #[]) ∧ MM B K w0 w' ⟨M.st, M.dep, M.fr, M.l ++ [(k, s, t - s)]⟩ := by
  obtain ⟨i0, hi, hz0, hz1, hz2⟩ := info_parts info34
  obtain ⟨lv, h⟩ := h
  obtain ⟨st, dep, fr, T⟩ := M
  simp only at h hT
  have c3 := h.c3
  have wr1 : IntKind.i64.wrap ((t : Int) - (s : Int)) = (t : Int) - (s : Int) := IntWalk.i64_in _ (by omega)
  have H1 := hidden (h.grown (grownBy_alloc w (.cells #[.int .u8 (k : Nat), .int .i64 (s : Nat), .int .i64 ((t : Int) - (s : Int))] 47)))
  have hown := H1.out.lrow
  clear h
  go_enter Try.func40, Try.ntmps40
  go_wp2_with (at_builtin; refine wpList_append_at _ rfl _ _ 24 rfl B 47 i0 (.agg #[.int .u8 0, .int .i64 0, .int .i64 0]) 3 24 Try.underlying24 hi hz0 hz1 hz2 rfl (by decide) _ _ _ rfl hown ⟨w.heap.size, 0, none⟩ 1 1 [.int .u8 (k : Nat), .int .i64 (s : Nat), .int .i64 ((t : Int) - (s : Int))] rfl rfl ?c1 ?c2 ?c3 ?c4 ?c5 ?c6 ?_)
  case c1 => exact cells3e _ _ _ _ _
  case c2 => intro u hu; simp at hu; rcases hu with rfl | rfl | rfl <;> rfl
  case c3 => unfold maxLen; omega
  case c4 => omega
  case c5 => exact H1.out.bs
  case c6 => decide
  intro v' w3 hr3 hg3 _
  have HP : Hid (MS B K w0 (w3.setCell ⟨K, 3, none⟩ v') v' st dep fr (T ++ [(k, s, t - s)])) := H1.out.push (by rw [rowT_one, show (((t - s : Nat) : Nat) : Int) = (t : Int) - (s : Int) by omega]; exact hr3) hg3
  have hd3 := (hg3.block K H1.out.lt (fun e => H1.out.lown e.symm)).trans H1.out.head
  have e3 : w3.cell? ⟨K, 3, none⟩ = some lv := by simp only [World.cell?, hd3]; rfl
  have f3 : w3.frozen? ⟨K, 3, none⟩ = false := frozen_of_row w3 K 3 _ 73 hd3
  obtain ⟨va, vc, rfl⟩ := row_slice hr3
  clear hr3 hg3 hd3 hown
  go_wp2_with fail
  go_end0
  exact ⟨rfl, _, HP.out⟩
set_option maxHeartbeats 1000000 in
theorem mdone {B K : Nat} {w0 w : World} {M : Sm} (h : MM B K w0 w M) :
    Calls Try.prog 41 #[.pointer (some ⟨K, 0, none⟩)] w fun e w' => e = .returned (.tuple #[]) ∧ MM B K w0 w' ⟨aft M.dep, M.dep, M.fr, M.l⟩ := by
  obtain ⟨lv, h⟩ := h
  obtain ⟨st, dep, fr, T⟩ := M
  simp only at h
  have c0 := h.c0
  have c1 := h.c1
  have f0 := h.free 0
  have h1 := h.state 1
  by_cases hd : dep = 0
  · have hz : ((dep : Int) == 0) = true := by simp; omega
    have ha : aft dep = 6 := by simp [aft, hd]
    have H6 := hidden (h1.state 6)
    have d0 := h1.c0
    have d1 := h1.c1
    have g0 := h1.free 0
    rw [show ((1 : Nat) : Int) = 1 from rfl] at d0 d1 g0
    have Ha := hidden ha
    clear h h1 ha hd
    go_enter Try.func41, Try.ntmps41
    go_wp2_with fail
    go_end0
    rw [Ha.out]
    exact ⟨rfl, lv, by simpa using H6.out⟩
  · have hz : ((dep : Int) == 0) = false := by simp; omega
    have ha : aft dep = 1 := by simp [aft, hd]
    have H6 := hidden h1
    have d1 := h1.c1
    rw [show ((1 : Nat) : Int) = 1 from rfl] at d1
    have Ha := hidden ha
    clear h h1 ha hd
    go_enter Try.func41, Try.ntmps41
    go_wp2_with fail
    go_end0
    rw [Ha.out]
    exact ⟨rfl, lv, by simpa using H6.out⟩

set_option maxHeartbeats 2000000 in
theorem part_any (c : Nat) (w : World) : Calls Try.prog 65 #[.int .u8 (c : Nat)] w fun e w' => e = .returned (.bool (isP c)) ∧ w' = w := by
  have Hs : Hid (isP c = (decide (32 < c) && !(decide (c = 40) || decide (c = 41) || decide (c = 34) || decide (c = 39) || decide (c = 96) || decide (c = 44) || decide (c = 59) || decide (c = 127)))) := rfl
  by_cases h40 : c = 40
  · have z40 : ((c : Int) == 40) = true := by simp; omega
    go_enter Try.func65, Try.ntmps65
    go_wp2
    go_ret
    exact ⟨by rw [Hs.out]; simp [h40], rfl⟩
  have z40 : ((c : Int) == 40) = false := by simp; omega
  by_cases h41 : c = 41
  · have z41 : ((c : Int) == 41) = true := by simp; omega
    go_enter Try.func65, Try.ntmps65
    go_wp2
    go_ret
    exact ⟨by rw [Hs.out]; simp [h41], rfl⟩
  have z41 : ((c : Int) == 41) = false := by simp; omega
  by_cases h34 : c = 34
  · have z34 : ((c : Int) == 34) = true := by simp; omega
    go_enter Try.func65, Try.ntmps65
    go_wp2
    go_ret
    exact ⟨by rw [Hs.out]; simp [h34], rfl⟩
  have z34 : ((c : Int) == 34) = false := by simp; omega
  by_cases h39 : c = 39
  · have z39 : ((c : Int) == 39) = true := by simp; omega
    go_enter Try.func65, Try.ntmps65
    go_wp2
    go_ret
    exact ⟨by rw [Hs.out]; simp [h39], rfl⟩
  have z39 : ((c : Int) == 39) = false := by simp; omega
  by_cases h96 : c = 96
  · have z96 : ((c : Int) == 96) = true := by simp; omega
    go_enter Try.func65, Try.ntmps65
    go_wp2
    go_ret
    exact ⟨by rw [Hs.out]; simp [h96], rfl⟩
  have z96 : ((c : Int) == 96) = false := by simp; omega
  by_cases h44 : c = 44
  · have z44 : ((c : Int) == 44) = true := by simp; omega
    go_enter Try.func65, Try.ntmps65
    go_wp2
    go_ret
    exact ⟨by rw [Hs.out]; simp [h44], rfl⟩
  have z44 : ((c : Int) == 44) = false := by simp; omega
  by_cases h59 : c = 59
  · have z59 : ((c : Int) == 59) = true := by simp; omega
    go_enter Try.func65, Try.ntmps65
    go_wp2
    go_ret
    exact ⟨by rw [Hs.out]; simp [h59], rfl⟩
  have z59 : ((c : Int) == 59) = false := by simp; omega
  by_cases h127 : c = 127
  · have z127 : ((c : Int) == 127) = true := by simp; omega
    go_enter Try.func65, Try.ntmps65
    go_wp2
    go_ret
    exact ⟨by rw [Hs.out]; simp [h127], rfl⟩
  have z127 : ((c : Int) == 127) = false := by simp; omega
  have hs : Hid (isP c = decide ((32 : Int) < (c : Int))) := by
    unfold Hid; rw [Hs.out]; simp [h40, h41, h34, h39, h96, h44, h59, h127]; omega
  clear h40 h41 h34 h39 h96 h44 h59 h127 Hs
  go_enter Try.func65, Try.ntmps65
  go_wp2
  go_ret
  exact ⟨by rw [hs.out]; simp, rfl⟩

/-- A call of the machine's answers what the plain function does. -/
def Does (B K : Nat) (w0 : World) (p : Nat × Sm) (e : Ending) (w : World) : Prop := e = .returned (.int .i64 (p.1 : Nat)) ∧ MM B K w0 w p.2
set_option maxHeartbeats 4000000 in
theorem mstart {B K : Nat} {w0 w : World} {M : Sm} (h : MM B K w0 w M) (c i : Nat) (hi : i ≤ 900000) (hd : M.dep ≤ 512) (hT : M.l.length ≤ 1000000) :
    Calls Try.prog 66 #[.pointer (some ⟨K, 0, none⟩), .int .u8 (c : Nat), .int .i64 (i : Nat)] w (Does B K w0 (start M c i)) := by
  obtain ⟨lv, h⟩ := h
  obtain ⟨st, dep, fr, T⟩ := M
  simp only at h hT hd
  have c2 := h.c2
  have f2 := h.free 2
  have h1 := h.from' i
  have HS : Hid (start ⟨st, dep, fr, T⟩ c i = start ⟨st, dep, fr, T⟩ c i) := rfl
  have hib : i + 1 ≤ 1000000 := by omega

  by_cases h39 : c = 39
  · have z39 : ((c : Int) == 39) = true := by simp; omega
    have HF : Hid (start ⟨st, dep, fr, T⟩ c i = (0, ⟨0, dep, i, T ++ [(6, i, 1)]⟩)) := by unfold Hid; simp [start, h39]
    have ct := mtoken (M := ⟨st, dep, i, T⟩) ⟨lv, h1⟩ 6 i (i + 1) (by omega) hib hT
    rw [show i + 1 - i = 1 by omega] at ct
    clear h h1 HS h39
    go_enter Try.func66, Try.ntmps66
    go_wp2_with fail
    refine ct.mono ?_
    rintro e w1 ⟨rfl, lv1, h1⟩
    have c0 := h1.c0
    have f0 := h1.free 0
    have H2 := hidden (h1.state 0)
    clear ct h1
    go_wp2_with fail
    go_ret
    rw [HF.out]
    exact ⟨rfl, lv1, by simpa using H2.out⟩
  have z39 : ((c : Int) == 39) = false := by simp; omega

  by_cases h96 : c = 96
  · have z96 : ((c : Int) == 96) = true := by simp; omega
    have HF : Hid (start ⟨st, dep, fr, T⟩ c i = (0, ⟨0, dep, i, T ++ [(6, i, 1)]⟩)) := by unfold Hid; simp [start, h96]
    have ct := mtoken (M := ⟨st, dep, i, T⟩) ⟨lv, h1⟩ 6 i (i + 1) (by omega) hib hT
    rw [show i + 1 - i = 1 by omega] at ct
    clear h h1 HS h96
    go_enter Try.func66, Try.ntmps66
    go_wp2_with fail
    refine ct.mono ?_
    rintro e w1 ⟨rfl, lv1, h1⟩
    have c0 := h1.c0
    have f0 := h1.free 0
    have H2 := hidden (h1.state 0)
    clear ct h1
    go_wp2_with fail
    go_ret
    rw [HF.out]
    exact ⟨rfl, lv1, by simpa using H2.out⟩
  have z96 : ((c : Int) == 96) = false := by simp; omega

  have d0 := h1.c0
  have d1 := h1.c1
  have g0 := h1.free 0
  have g1 := h1.free 1
  by_cases h44 : c = 44
  · have z44 : ((c : Int) == 44) = true := by simp; omega
    have HF : Hid (start ⟨st, dep, fr, T⟩ c i = (0, ⟨2, dep, i, T⟩)) := by unfold Hid; simp [start, h44]
    have H2 := hidden (h1.state 2)
    clear h h1 HS h39 h96 h44
    go_enter Try.func66, Try.ntmps66
    go_wp2_with fail
    go_ret
    rw [HF.out]
    exact ⟨rfl, lv, by simpa using H2.out⟩
  have z44 : ((c : Int) == 44) = false := by simp; omega
  by_cases h40 : c = 40
  · have z40 : ((c : Int) == 40) = true := by simp; omega
    by_cases h5 : dep = 512
    · have z5 : ((dep : Int) == 512) = true := by simp; omega
      have HF : Hid (start ⟨st, dep, fr, T⟩ c i = (6, ⟨st, dep, i, T⟩)) := by unfold Hid; simp [start, h40, h5]
      have H2 := hidden h1
      clear h h1 HS h39 h96 h44 h40 h5
      go_enter Try.func66, Try.ntmps66
      go_wp2_with fail
      go_ret
      rw [HF.out]
      exact ⟨rfl, lv, by simpa using H2.out⟩
    · have z5 : ((dep : Int) == 512) = false := by simp; omega
      have HF : Hid (start ⟨st, dep, fr, T⟩ c i = (0, ⟨1, dep + 1, i, T ++ [(1, i, 1)]⟩)) := by unfold Hid; simp [start, h40, h5]
      have h2 := h1.deep (dep + 1)
      have ct := mtoken (M := ⟨st, dep + 1, i, T⟩) ⟨lv, h2⟩ 1 i (i + 1) (by omega) hib hT
      rw [show i + 1 - i = 1 by omega] at ct
      rw [show ((dep + 1 : Nat) : Int) = (dep : Int) + 1 by omega] at ct
      clear h h1 h2 HS h39 h96 h44 h40 h5
      go_enter Try.func66, Try.ntmps66
      go_wp2_with fail
      refine ct.mono ?_
      rintro e w1 ⟨rfl, lv1, h1⟩
      have c0 := h1.c0
      have f0 := h1.free 0
      have H2 := hidden (h1.state 1)
      clear ct h1
      go_wp2_with fail
      go_ret
      rw [HF.out]
      exact ⟨rfl, lv1, by simpa using H2.out⟩
  have z40 : ((c : Int) == 40) = false := by simp; omega
  by_cases h34 : c = 34
  · have z34 : ((c : Int) == 34) = true := by simp; omega
    have HF : Hid (start ⟨st, dep, fr, T⟩ c i = (0, ⟨4, dep, i, T⟩)) := by unfold Hid; simp [start, h34]
    have H2 := hidden (h1.state 4)
    clear h h1 HS h39 h96 h44 h40 h34
    go_enter Try.func66, Try.ntmps66
    go_wp2_with fail
    go_ret
    rw [HF.out]
    exact ⟨rfl, lv, by simpa using H2.out⟩
  have z34 : ((c : Int) == 34) = false := by simp; omega
  have cp := part_any c
  cases hp : isP c with
  | true =>
    rw [hp] at cp
    by_cases h64 : c = 64
    · have z64 : ((c : Int) != 64) = false := by simp; omega
      have HF : Hid (start ⟨st, dep, fr, T⟩ c i = (5, ⟨st, dep, i, T⟩)) := by unfold Hid; simp [start, h64]
      have H2 := hidden h1
      clear h h1 HS h39 h96 h44 h40 h34 h64 hp
      go_enter Try.func66, Try.ntmps66
      go_wp2_with fail
      refine (cp _).mono ?_
      rintro e w1 ⟨rfl, rfl⟩
      go_wp2_with fail
      go_ret
      rw [HF.out]
      exact ⟨rfl, lv, by simpa using H2.out⟩
    · have z64 : ((c : Int) != 64) = true := by rw [bne_iff_ne]; omega
      have HF : Hid (start ⟨st, dep, fr, T⟩ c i = (0, ⟨3, dep, i, T⟩)) := by unfold Hid; simp [start, h39, h96, h44, h40, h34, h64, hp]
      have H2 := hidden (h1.state 3)
      clear h h1 HS h39 h96 h44 h40 h34 h64 hp
      go_enter Try.func66, Try.ntmps66
      go_wp2_with fail
      refine (cp _).mono ?_
      rintro e w1 ⟨rfl, rfl⟩
      go_wp2_with fail
      go_ret
      rw [HF.out]
      exact ⟨rfl, lv, by simpa using H2.out⟩
  | false =>
    rw [hp] at cp
    have HF : Hid (start ⟨st, dep, fr, T⟩ c i = (5, ⟨st, dep, i, T⟩)) := by unfold Hid; simp [start, h39, h96, h44, h40, h34, hp]
    have H2 := hidden h1
    clear h h1 HS h39 h96 h44 h40 h34 hp
    go_enter Try.func66, Try.ntmps66
    go_wp2_with fail
    refine (cp _).mono ?_
    rintro e w1 ⟨rfl, rfl⟩
    go_wp2_with fail
    go_ret
    rw [HF.out]
    exact ⟨rfl, lv, by simpa using H2.out⟩
end Go.Proofs.PlatenSexp

/- What the laws of sexp want of the document's machine: atoms, strings, lists in one another, two expressions in parentheses. -/
namespace Go.Proofs.PlatenSexp
set_option linter.unusedVariables false

/-! How many tokens there are. -/
theorem start_len (M : Sm) (c i : Nat) : (start M c i).2.l.length ≤ M.l.length + 1 := by
  unfold start
  split
  · simp
  · split
    · simp
    · split
      · split <;> simp
      · split
        · simp
        · split <;> simp
theorem feedB_len (M : Sm) (c i : Nat) : (feedB M c i).2.l.length ≤ M.l.length + 1 := by
  unfold feedB
  split
  · simp
  · split
    · simp
    · split
      · simp
      · exact start_len _ _ _
theorem feed_len (M : Sm) (c i : Nat) : (feed M c i).2.l.length ≤ M.l.length + 2 := by
  have e1 := fun X => feedB_len X c i
  unfold feed
  split
  · split
    · simp
    · split <;> simp
  · split
    · simp
    · split
      · split
        · simp
        · exact Nat.le_trans (e1 _) (by simp)
      · split
        · split
          · simp
          · exact Nat.le_trans (e1 _) (by simp)
        · exact Nat.le_trans (e1 _) (by omega)
theorem run_len (f : Nat → Nat) : ∀ (k i : Nat) (M : Sm), (run f k i M).1.length ≤ M.l.length + 2 * k + 1
  | 0, i, M => by
    unfold run fin' finA
    split <;> split <;> simp
  | k + 1, i, M => by
    unfold run
    split
    · have := run_len f k (i + 1) (feed M (f i) i).2
      have := feed_len M (f i) i
      omega
    · simp
theorem ans_len (f : Nat → Nat) (n : Nat) (hn : n ≤ 100000) : (ans f n).1.length ≤ 1000000 := by
  have := run_len f (n - 0) 0 M0
  have e : M0.l.length = 0 := rfl
  unfold ans out
  omega

/-! Texts told by a list. -/
def fOf (L : List Nat) (j : Nat) : Nat := L.getD j 0
/-- From byte j on the text is L. -/
def Lat (f : Nat → Nat) (j : Nat) (L : List Nat) : Prop := ∀ t x, L[t]? = some x → f (j + t) = x
theorem lat_fOf (L : List Nat) : Lat (fOf L) 0 L := by
  intro t x h
  rw [Nat.zero_add]
  unfold fOf
  rw [List.getD_eq_getElem?_getD, h]
  rfl
theorem Lat.left {f : Nat → Nat} {j : Nat} {A B : List Nat} (h : Lat f j (A ++ B)) : Lat f j A := fun t x e => h t x (by
  have : t < A.length := (List.getElem?_eq_some_iff.1 e).1
  rw [List.getElem?_append_left this]; exact e)
theorem Lat.right {f : Nat → Nat} {j : Nat} {A B : List Nat} (h : Lat f j (A ++ B)) : Lat f (j + A.length) B := fun t x e => by
  rw [Nat.add_assoc]
  exact h _ x (by rw [List.getElem?_append_right (by omega), Nat.add_sub_cancel_left]; exact e)
theorem Lat.head {f : Nat → Nat} {j a : Nat} {A : List Nat} (h : Lat f j (a :: A)) : f j = a := h 0 a rfl
theorem Lat.tail {f : Nat → Nat} {j a : Nat} {A : List Nat} (h : Lat f j (a :: A)) : Lat f (j + 1) A := fun t x e => by
  rw [Nat.add_assoc, Nat.add_comm 1 t]
  exact h (t + 1) x e

section
variable {f : Nat → Nat} {n : Nat} {o : Res}
/-! Atoms. -/
theorem atom_all : ∀ (L : List Nat) {dep : Nat} {T : List Tk} {fr j : Nat}, Cur f n o 3 dep T fr j → Lat f j L → (∀ c ∈ L, isP c = true) → j + L.length ≤ n → Cur f n o 3 dep T fr (j + L.length)
  | [], dep, T, fr, j, h, ha, hp, hn => h
  | c :: L, dep, T, fr, j, h, ha, hp, hn => by
    rw [List.length_cons] at hn ⊢
    have h1 := a_more h (by omega) (by rw [ha.head]; exact hp c (by simp))
    have := atom_all L h1 ha.tail (fun x hx => hp x (by simp [hx])) (by omega)
    rwa [show j + 1 + L.length = j + (L.length + 1) by omega] at this
end
theorem ans_atom (L : List Nat) (hp : ∀ c ∈ L, isP c = true) : ans (fOf (97 :: L)) (L.length + 1) = ([(5, 0, L.length + 1)], 0, 0) := by
  have ha := lat_fOf (97 :: L)
  have h0 := begins (fOf (97 :: L)) (L.length + 1)
  have h1 := a_open h0 (Or.inl rfl) (by omega) (by rw [ha.head]; decide) (by rw [ha.head]; decide)
  have h2 := atom_all L h1 ha.tail hp (by omega)
  rw [show 0 + 1 + L.length = L.length + 1 by omega] at h2
  exact top_ok (a_end h2 (Nat.le_refl _) (fun h => absurd h (Nat.lt_irrefl _)))

/-! Strings. -/
def esc (c : Nat) : List Nat := if c = 34 ∨ c = 92 then [92, c] else [c]
def EL (L : List Nat) : List Nat := L.flatMap esc
theorem EL_snoc (L : List Nat) (c : Nat) : EL (L ++ [c]) = EL L ++ esc c := by simp [EL]
theorem EL_cons (c : Nat) (L : List Nat) : EL (c :: L) = esc c ++ EL L := by simp [EL]
theorem EL_len : ∀ L : List Nat, (EL L).length ≤ 2 * L.length
  | [] => Nat.le_refl _
  | c :: L => by
    rw [EL_cons, List.length_append, List.length_cons]
    have := EL_len L
    have : (esc c).length ≤ 2 := by unfold esc; split <;> simp
    omega
section
variable {f : Nat → Nat} {n : Nat} {o : Res}
theorem text_all : ∀ (L : List Nat) {dep : Nat} {T : List Tk} {fr j : Nat}, Cur f n o 4 dep T fr j → Lat f j (EL L) → j + (EL L).length ≤ n → Cur f n o 4 dep T fr (j + (EL L).length)
  | [], dep, T, fr, j, h, ha, hn => h
  | c :: L, dep, T, fr, j, h, ha, hn => by
    rw [EL_cons] at ha hn ⊢
    rw [List.length_append] at hn ⊢
    rw [← Nat.add_assoc] at hn ⊢
    refine text_all L ?_ ha.right hn
    have hl := ha.left
    by_cases hc : c = 34 ∨ c = 92
    · have he : esc c = [92, c] := if_pos hc
      rw [he] at hl hn ⊢
      have hn' : j + 2 + (EL L).length ≤ n := hn
      have h2 := t_any (t_slash h (by omega) hl.head) (show j + 1 < n by omega)
      exact h2
    · have he : esc c = [c] := if_neg hc
      rw [he] at hl hn ⊢
      have hn' : j + 1 + (EL L).length ≤ n := hn
      exact t_plain h (by omega) (by rw [hl.head]; exact fun e => hc (Or.inl e)) (by rw [hl.head]; exact fun e => hc (Or.inr e))
end
theorem ans_text (L : List Nat) : ans (fOf ([34] ++ EL L ++ [34])) ((EL L).length + 2) = ([(5, 0, (EL L).length + 2)], 0, 0) := by
  have ha := lat_fOf ([34] ++ EL L ++ [34])
  have h0 := begins (fOf ([34] ++ EL L ++ [34])) ((EL L).length + 2)
  have h1 := t_open h0 (Or.inl rfl) (by omega) (Lat.head (Lat.left (Lat.left ha)))
  have h2 := text_all L h1 ha.left.right (by omega)
  have hq := ha.right.head
  have hp : 0 + ([34] ++ EL L).length = 0 + 1 + (EL L).length := by rw [List.length_append]; show 0 + (1 + _) = _; omega
  rw [hp] at hq
  have h3 := t_close h2 (by omega) hq
  rw [show 0 + 1 + (EL L).length + 1 = (EL L).length + 2 by omega] at h3
  exact top_ok h3
theorem ans_text_cut (L : List Nat) : ans (fOf ([34] ++ EL L ++ [34])) ((EL L).length + 1) = ([], (EL L).length + 1, 5) := by
  have ha := lat_fOf ([34] ++ EL L ++ [34])
  have h0 := begins (fOf ([34] ++ EL L ++ [34])) ((EL L).length + 1)
  have h1 := t_open h0 (Or.inl rfl) (by omega) (Lat.head (Lat.left (Lat.left ha)))
  have h2 := text_all L h1 ha.left.right (by omega)
  rw [show 0 + 1 + (EL L).length = (EL L).length + 1 by omega] at h2
  exact t_end h2 (Or.inl rfl)

/-! Lists in one another. -/
def op (b : Bool) : List Nat := if b then [39, 40] else [40]
def OL (l : List Bool) : List Nat := l.flatMap op
theorem OL_snoc (l : List Bool) (b : Bool) : OL (l ++ [b]) = OL l ++ op b := by simp [OL]
theorem OL_cons (b : Bool) (l : List Bool) : OL (b :: l) = op b ++ OL l := by simp [OL]
theorem OL_app (a b : List Bool) : OL (a ++ b) = OL a ++ OL b := by simp [OL]
theorem OL_len : ∀ l : List Bool, (OL l).length ≤ 2 * l.length
  | [] => Nat.le_refl _
  | b :: l => by
    rw [OL_cons, List.length_append, List.length_cons]
    have := OL_len l
    have : (op b).length ≤ 2 := by cases b <;> decide
    omega
theorem OL_lt (l : List Bool) : ∀ c ∈ OL l, c < 256 := by
  intro c hc
  obtain ⟨b, _, hb⟩ := List.mem_flatMap.1 hc
  cases b <;> simp [op] at hb <;> omega
section
variable {f : Nat → Nat} {n : Nat} {o : Res}
/-- A quote, if there is one, and the byte behind it. -/
theorem deep_quote {st dep : Nat} {T : List Tk} {j : Nat} (b : Bool) (h : Cv f n o st dep T j) (hs : st = 0 ∨ st = 1) (ha : Lat f j (op b)) (hn : j + (op b).length ≤ n) :
    ∃ st' T', (st' = 0 ∨ st' = 1) ∧ T.length ≤ T'.length ∧ Cv f n o st' dep T' (j + if b then 1 else 0) ∧ f (j + if b then 1 else 0) = 40 ∧ (j + if b then 1 else 0) + 1 = j + (op b).length := by
  cases b with
  | false => exact ⟨st, T, hs, Nat.le_refl _, h, ha.head, rfl⟩
  | true =>
    have hn' : j + 2 ≤ n := hn
    exact ⟨0, _, Or.inl rfl, by simp, q_one h hs (by omega) (Or.inl ha.head), ha.tail.head, rfl⟩
theorem deep_opens : ∀ (l : List Bool) {st dep : Nat} {T : List Tk} {j : Nat}, Cv f n o st dep T j → (st = 0 ∨ st = 1) → Lat f j (OL l) → j + (OL l).length ≤ n → dep + l.length ≤ 512 →
    ∃ st' T', (st' = 0 ∨ st' = 1) ∧ (l ≠ [] → st' = 1) ∧ (l = [] → st' = st ∧ T' = T) ∧ T.length + l.length ≤ T'.length ∧ Cv f n o st' (dep + l.length) T' (j + (OL l).length)
  | [], st, dep, T, j, h, hs, ha, hn, hd => ⟨st, T, hs, fun e => absurd rfl e, fun _ => ⟨rfl, rfl⟩, Nat.le_refl _, h⟩
  | b :: l, st, dep, T, j, h, hs, ha, hn, hd => by
    rw [OL_cons] at ha hn ⊢
    rw [List.length_append] at hn ⊢
    rw [List.length_cons] at hd ⊢
    obtain ⟨s1, T1, hs1, hT1, h1, hc, hl⟩ := deep_quote b h hs ha.left (by omega)
    have h2 := l_open h1 hs1 (by omega) hc (by omega)
    rw [hl] at h2
    obtain ⟨s3, T3, hs3, hs4, hs5, hT3, h3⟩ := deep_opens l h2 (Or.inr rfl) ha.right (by omega) (by omega)
    refine ⟨s3, T3, hs3, fun _ => ?_, fun e => (by cases e), ?_, ?_⟩
    · cases l with
      | nil => exact (hs5 rfl).1
      | cons x r => exact hs4 (by simp)
    · rw [List.length_append] at hT3; simp at hT3; omega
    · rw [show dep + (l.length + 1) = dep + 1 + l.length by omega, ← Nat.add_assoc]
      exact h3
theorem deep_closes : ∀ (m : Nat) {d : Nat} {T : List Tk} {j : Nat}, Cv f n o 1 (d + m) T j → 0 < d + m → (∀ t, t < m → f (j + t) = 41) → j + m ≤ n →
    ∃ T', T'.length = T.length + m ∧ Cv f n o (aft d) d T' (j + m) ∨ d = 0 ∧ m = 0
  | 0, d, T, j, h, hd, ha, hn => by
    refine ⟨T, Or.inl ⟨rfl, ?_⟩⟩
    have : aft d = 1 := by unfold aft; rw [if_neg (by omega)]
    rw [this]
    exact h
  | m + 1, d, T, j, h, hd, ha, hn => by
    have h1 := l_close h (by omega) (by have := ha 0 (by omega); simpa using this)
    rw [show d + (m + 1) - 1 = d + m by omega] at h1
    by_cases hz : d + m = 0
    · obtain ⟨rfl, rfl⟩ : d = 0 ∧ m = 0 := by omega
      exact ⟨_, Or.inl ⟨by simp, h1⟩⟩
    · have e1 : aft (d + m) = 1 := by unfold aft; rw [if_neg hz]
      rw [e1] at h1
      obtain ⟨T', h2 | h2⟩ := deep_closes m h1 (by omega) (fun t ht => by have := ha (t + 1) (by omega); rwa [show j + (t + 1) = j + 1 + t by omega] at this) (by omega)
      · refine ⟨T', Or.inl ⟨by rw [h2.1]; simp; omega, ?_⟩⟩
        rw [show j + (m + 1) = j + 1 + m by omega]
        exact h2.2
      · exact absurd h2 (by omega)
end
/-- The text of SexpDeep: the opening ones, m closing ones. -/
def PL (l : List Bool) (m : Nat) : List Nat := OL l ++ List.replicate m 41
theorem PL_len (l : List Bool) (m : Nat) : (PL l m).length = (OL l).length + m := by simp [PL]
theorem PL_succ (l : List Bool) (m : Nat) : PL l (m + 1) = PL l m ++ [41] := by
  unfold PL
  rw [List.replicate_succ', List.append_assoc]
theorem PL_lt (l : List Bool) (m : Nat) : ∀ c ∈ PL l m, c < 256 := by
  intro c hc
  unfold PL at hc
  rcases List.mem_append.1 hc with h | h
  · exact OL_lt l c h
  · rw [(List.mem_replicate.1 h).2]; decide
/-- Where the first list is that is too deep. -/
def fst (l : List Bool) : Nat := (OL (l.take 512)).length + if l.getD 512 false then 1 else 0
theorem fst_snoc (l : List Bool) (b : Bool) (h : 512 < l.length) : fst (l ++ [b]) = fst l := by
  unfold fst
  rw [List.take_append_of_le_length (by omega), List.getD_eq_getElem?_getD, List.getD_eq_getElem?_getD, List.getElem?_append_left h]
theorem fst_now (l : List Bool) (b : Bool) (h : l.length = 512) : fst (l ++ [b]) = (OL l).length + if b then 1 else 0 := by
  unfold fst
  rw [List.take_append_of_le_length (by omega), List.take_of_length_le (by omega), List.getD_eq_getElem?_getD, List.getElem?_append_right (by omega), h]
  rfl
theorem ans_deep (l : List Bool) (m : Nat) (hl : 512 < l.length) : ans (fOf (PL l m)) (PL l m).length = ([], fst l, 6) := by
  have hp := PL_len l m
  have ha := lat_fOf (PL l m)
  have hc := begins (fOf (PL l m)) (PL l m).length
  generalize ans (fOf (PL l m)) (PL l m).length = o at *
  generalize fOf (PL l m) = f at *
  generalize (PL l m).length = n at *
  unfold PL at ha
  obtain ⟨b, r, hb⟩ : ∃ b r, l.drop 512 = b :: r := by
    cases e : l.drop 512 with
    | nil => exact absurd (List.drop_eq_nil_iff.1 e) (by omega)
    | cons b r => exact ⟨b, r, rfl⟩
  have hsplit : l = l.take 512 ++ (b :: r) := by rw [← hb, List.take_append_drop]
  have hlt : (l.take 512).length = 512 := by rw [List.length_take]; omega
  have hOL : OL l = OL (l.take 512) ++ (op b ++ OL r) := by rw [← OL_cons, ← OL_app, ← hsplit]
  have hb2 : l.getD 512 false = b := by
    rw [List.getD_eq_getElem?_getD, hsplit, List.getElem?_append_right (by omega), hlt]
    rfl
  have hlen : (OL l).length = (OL (l.take 512)).length + ((op b).length + (OL r).length) := by rw [hOL]; simp
  rw [hOL] at ha
  obtain ⟨s1, T1, hs1, _, _, _, h1⟩ := deep_opens (l.take 512) hc (Or.inl rfl) ha.left.left (by omega) (by omega)
  obtain ⟨s2, T2, hs2, _, h2, hc2, hl2⟩ := deep_quote b h1 hs1 ha.left.right.left (by omega)
  have := l_deep h2 hs2 (by omega) hc2 (by omega)
  rw [this]
  unfold fst
  rw [hb2]
  simp
theorem ans_lev (l : List Bool) (hl : l.length ≤ 512) (h0 : l ≠ []) : ∃ T, ans (fOf (PL l l.length)) (PL l l.length).length = (T, 0, 0) ∧ 2 * l.length ≤ T.length := by
  have hp := PL_len l l.length
  have ha := lat_fOf (PL l l.length)
  have hc := begins (fOf (PL l l.length)) (PL l l.length).length
  generalize ans (fOf (PL l l.length)) (PL l l.length).length = o at *
  generalize fOf (PL l l.length) = f at *
  generalize (PL l l.length).length = n at *
  unfold PL at ha
  have hpos : 0 < l.length := List.length_pos_iff.2 h0
  obtain ⟨s1, T1, hs1, e1, _, hT1, h1⟩ := deep_opens l hc (Or.inl rfl) ha.left (by omega) (by omega)
  rw [e1 h0] at h1
  have hr := ha.right
  obtain ⟨T2, h2 | h2⟩ := deep_closes l.length (d := 0) h1 (by omega) (fun t ht => hr t 41 (by rw [List.getElem?_replicate, if_pos ht])) (by omega)
  · rw [show 0 + (OL l).length + l.length = n by omega] at h2
    refine ⟨T2, top_ok h2.2, ?_⟩
    have : ([] : List Tk).length = 0 := rfl
    omega
  · exact absurd h2.2 (by omega)
theorem ans_nil (f : Nat → Nat) : ans f 0 = ([], 0, 5) := rfl

/-! Expressions in parentheses. -/
def sh (s : Nat) (l : List Tk) : List Tk := l.map fun t => (t.1, t.2.1 + s, t.2.2)
theorem sh_app (s : Nat) (a b : List Tk) : sh s (a ++ b) = sh s a ++ sh s b := by simp [sh]
theorem sh_len (s : Nat) (a : List Tk) : (sh s a).length = a.length := by simp [sh]
/-- The machine within a list stands as the machine alone does. -/
structure Emb (s : Nat) (pre : List Tk) (M M' : Sm) : Prop where
  dep : M'.dep = M.dep + 1
  l : M'.l = pre ++ sh s M.l
  st : (M.st = 0 ∧ (M'.st = 0 ∨ M'.st = 1)) ∨ (M.st = 1 ∧ M'.st = 1 ∧ M.dep ≠ 0) ∨ (M.st = 6 ∧ M'.st = 1 ∧ M.dep = 0) ∨ (2 ≤ M.st ∧ M.st ≤ 5 ∧ M'.st = M.st ∧ M'.fr = M.fr + s)
theorem emb_aft {s : Nat} {pre : List Tk} {d fr fr' : Nat} {a a' : List Tk} (h : a' = pre ++ sh s a) : Emb s pre ⟨aft d, d, fr, a⟩ ⟨aft (d + 1), d + 1, fr', a'⟩ := by
  refine ⟨rfl, h, ?_⟩
  have e : aft (d + 1) = 1 := by unfold aft; rw [if_neg (by omega)]
  rcases aft_cases d with ⟨e1, e2⟩ | ⟨e1, e2⟩
  · exact Or.inr (Or.inr (Or.inl ⟨e1, e, e2⟩))
  · exact Or.inr (Or.inl ⟨e1, e, e2⟩)
theorem emb_start {s : Nat} {pre : List Tk} {M M' : Sm} {c i : Nat} (hd : M'.dep = M.dep + 1) (hl : M'.l = pre ++ sh s M.l) (h5 : M.dep < 511) (h : (start M c i).1 = 0) :
    (start M' c (i + s)).1 = 0 ∧ Emb s pre (start M c i).2 (start M' c (i + s)).2 := by
  unfold start at h ⊢
  split at h
  · rename_i q
    rw [if_pos q, if_pos q]
    exact ⟨rfl, hd, by simp [hl, sh], Or.inl ⟨rfl, Or.inl rfl⟩⟩
  · rename_i q
    rw [if_neg q, if_neg q]
    split at h
    · rename_i q2
      rw [if_pos q2, if_pos q2]
      exact ⟨rfl, hd, hl, Or.inr (Or.inr (Or.inr ⟨Nat.le_refl _, (by decide : 2 ≤ 5), rfl, rfl⟩))⟩
    · rename_i q2
      rw [if_neg q2, if_neg q2]
      split at h
      · rename_i q3
        rw [if_pos q3, if_pos q3, if_neg (by omega), if_neg (by omega)]
        exact ⟨rfl, by simp [hd], by simp [hl, sh], Or.inr (Or.inl ⟨rfl, rfl, Nat.succ_ne_zero _⟩)⟩
      · rename_i q3
        rw [if_neg q3, if_neg q3]
        split at h
        · rename_i q4
          rw [if_pos q4, if_pos q4]
          exact ⟨rfl, hd, hl, Or.inr (Or.inr (Or.inr ⟨(by decide : 2 ≤ 4), (by decide : 4 ≤ 5), rfl, rfl⟩))⟩
        · rename_i q4
          rw [if_neg q4, if_neg q4]
          split at h
          · rename_i q5
            rw [if_pos q5, if_pos q5]
            exact ⟨rfl, hd, hl, Or.inr (Or.inr (Or.inr ⟨(by decide : 2 ≤ 3), (by decide : 3 ≤ 5), rfl, rfl⟩))⟩
          · simp at h
theorem emb_feedB {s : Nat} {pre : List Tk} {M M' : Sm} {c i : Nat} (E : Emb s pre M M') (h5 : M.dep < 511) (hst : M.st = 0 ∨ M.st = 1 ∨ M.st = 6) (h : (feedB M c i).1 = 0) :
    (feedB M' c (i + s)).1 = 0 ∧ Emb s pre (feedB M c i).2 (feedB M' c (i + s)).2 := by
  unfold feedB at h ⊢
  split at h
  · rename_i q
    rw [if_pos q, if_pos q]
    exact ⟨rfl, E⟩
  · rename_i q
    rw [if_neg q, if_neg q]
    split at h
    · simp at h
    · rename_i q2
      rw [if_neg q2]
      have h6 : M'.st ≠ 6 := by rcases E.st with e | e | e | e <;> omega
      rw [if_neg h6]
      split at h
      · rename_i q3
        have h1 : M'.st = 1 := by rcases E.st with e | e | e | e <;> omega
        have hd0 : M.dep ≠ 0 := by rcases E.st with e | e | e | e <;> omega
        rw [if_pos q3, if_pos ⟨q3.1, h1⟩]
        refine ⟨rfl, ?_⟩
        have e1 : M'.dep - 1 = (M.dep - 1) + 1 := by rw [E.dep]; omega
        rw [e1]
        exact emb_aft (by rw [E.l]; simp [sh])
      · rename_i q3
        have q4 : ¬ (c = 41 ∧ M'.st = 1) := by
          rintro ⟨rfl, e⟩
          have : M.st = 0 := by
            rcases E.st with e | e | e | e
            · exact e.1
            · exact absurd ⟨rfl, e.1⟩ q3
            · exact absurd e.1 q2
            · omega
          revert h
          simp [start, isP]
        rw [if_neg q3, if_neg q4]
        exact emb_start E.dep E.l h5 h
theorem emb_feed {s : Nat} {pre : List Tk} {M M' : Sm} {c i : Nat} (E : Emb s pre M M') (h5 : M.dep < 511) (hfr : M.fr ≤ i) (h : (feed M c i).1 = 0) :
    (feed M' c (i + s)).1 = 0 ∧ Emb s pre (feed M c i).2 (feed M' c (i + s)).2 := by
  have hd := E.dep
  have hl := E.l
  have hcase : M.st = 0 ∨ M.st = 1 ∨ M.st = 6 ∨ M.st = 2 ∨ M.st = 3 ∨ M.st = 4 ∨ M.st = 5 := by rcases E.st with e | e | e | e <;> omega
  have hsame : 2 ≤ M.st → M.st ≤ 5 → M'.st = M.st ∧ M'.fr = M.fr + s := fun a b => by rcases E.st with e | e | e | e <;> omega
  have hother : M.st = 0 ∨ M.st = 1 ∨ M.st = 6 → M'.st = 0 ∨ M'.st = 1 := fun a => by rcases E.st with e | e | e | e <;> omega
  rcases hcase with e | e | e | e | e | e | e
  · have := hother (Or.inl e)
    have e1 : feed M c i = feedB M c i := by simp [feed, e]
    have e2 : feed M' c (i + s) = feedB M' c (i + s) := by rcases this with q | q <;> simp [feed, q]
    rw [e1] at h ⊢
    rw [e2]
    exact emb_feedB E h5 (Or.inl e) h
  · have := hother (Or.inr (Or.inl e))
    have e1 : feed M c i = feedB M c i := by simp [feed, e]
    have e2 : feed M' c (i + s) = feedB M' c (i + s) := by rcases this with q | q <;> simp [feed, q]
    rw [e1] at h ⊢
    rw [e2]
    exact emb_feedB E h5 (Or.inr (Or.inl e)) h
  · have := hother (Or.inr (Or.inr e))
    have e1 : feed M c i = feedB M c i := by simp [feed, e]
    have e2 : feed M' c (i + s) = feedB M' c (i + s) := by rcases this with q | q <;> simp [feed, q]
    rw [e1] at h ⊢
    rw [e2]
    exact emb_feedB E h5 (Or.inr (Or.inr e)) h
  · obtain ⟨e', f'⟩ := hsame (by omega) (by omega)
    rw [e] at e'
    by_cases hc : c = 64
    · simp [feed, e, e', hc]
      exact ⟨hd, by simp [hl, f', sh]; omega, Or.inl ⟨rfl, Or.inl rfl⟩⟩
    · have e1 : feed M c i = feedB ⟨0, M.dep, M.fr, M.l ++ [(6, M.fr, i - M.fr)]⟩ c i := by simp [feed, e, hc]
      have e2 : feed M' c (i + s) = feedB ⟨0, M'.dep, M'.fr, M'.l ++ [(6, M'.fr, i + s - M'.fr)]⟩ c (i + s) := by simp [feed, e', hc]
      rw [e1] at h ⊢
      rw [e2]
      exact emb_feedB ⟨hd, by simp [hl, f', sh]; omega, Or.inl ⟨rfl, Or.inl rfl⟩⟩ h5 (Or.inl rfl) h
  · obtain ⟨e', f'⟩ := hsame (by omega) (by omega)
    rw [e] at e'
    by_cases hc : isP c = true
    · simp only [feed, e, e', hc]
      exact ⟨rfl, E⟩
    · have e1 : feed M c i = feedB ⟨aft M.dep, M.dep, M.fr, M.l ++ [(5, M.fr, i - M.fr)]⟩ c i := by simp [feed, e, hc]
      have e2 : feed M' c (i + s) = feedB ⟨aft M'.dep, M'.dep, M'.fr, M'.l ++ [(5, M'.fr, i + s - M'.fr)]⟩ c (i + s) := by simp [feed, e', hc]
      rw [e1] at h ⊢
      rw [e2, hd]
      exact emb_feedB (emb_aft (by simp [hl, f', sh]; omega)) h5 (by rcases aft_cases M.dep with q | q <;> simp [q.1]) h
  · obtain ⟨e', f'⟩ := hsame (by omega) (by omega)
    rw [e] at e'
    by_cases hc : c = 34
    · simp only [feed, e, e', hc, if_true]
      rw [hd]
      exact ⟨by trivial, emb_aft (by simp [hl, f', sh]; omega)⟩
    · by_cases hc2 : c = 92
      · simp only [feed, e, e', hc2, if_true]
        exact ⟨by trivial, hd, hl, Or.inr (Or.inr (Or.inr ⟨(by decide : 2 ≤ 5), Nat.le_refl _, rfl, f'⟩))⟩
      · simp only [feed, e, e', hc, hc2, if_true, if_false]
        exact ⟨by trivial, E⟩
  · obtain ⟨e', f'⟩ := hsame (by omega) (by omega)
    rw [e] at e'
    simp only [feed, e, e']
    exact ⟨rfl, hd, hl, Or.inr (Or.inr (Or.inr ⟨(by decide : 2 ≤ 4), (by decide : 4 ≤ 5), rfl, f'⟩))⟩
end Go.Proofs.PlatenSexp

/- What feed of the document's machine comes to. -/
namespace Go.Proofs.PlatenSexp
open Go Go.RowKit
set_option linter.unusedVariables false
set_option maxRecDepth 100000

/-- What holds of the machine ahead of byte i. -/
structure Iv (M : Sm) (i : Nat) : Prop where
  d : M.dep ≤ 512
  fr : M.fr ≤ i
  l : M.l.length ≤ 2 * i
  one : M.st = 1 → M.dep ≠ 0
theorem aft_one {d : Nat} (h : aft d = 1) : d ≠ 0 := by rcases aft_cases d with ⟨e, _⟩ | ⟨_, e⟩; rw [h] at e; cases e; exact e
theorem start_iv {M : Sm} {c i : Nat} (hd : M.dep ≤ 512) (h : (start M c i).1 = 0) : (start M c i).2.dep ≤ 512 ∧ (start M c i).2.fr ≤ i + 1 ∧ ((start M c i).2.st = 1 → (start M c i).2.dep ≠ 0) := by
  unfold start at h ⊢
  split
  · simp; exact hd
  split
  · simp; exact hd
  split
  · split
    · simp_all
    · simp; omega
  split
  · simp; exact hd
  split
  · simp; exact hd
  · simp_all
theorem feedB_iv {M : Sm} {c i : Nat} (hd : M.dep ≤ 512) (hf : M.fr ≤ i) (h1 : M.st = 1 → M.dep ≠ 0) (h : (feedB M c i).1 = 0) : (feedB M c i).2.dep ≤ 512 ∧ (feedB M c i).2.fr ≤ i + 1 ∧ ((feedB M c i).2.st = 1 → (feedB M c i).2.dep ≠ 0) := by
  unfold feedB at h ⊢
  split
  · exact ⟨hd, Nat.le_succ_of_le hf, h1⟩
  split
  · exact ⟨hd, Nat.le_succ_of_le hf, h1⟩
  split
  · exact ⟨by simp; omega, by simp; omega, fun e => aft_one e⟩
  · rename_i h2 h3 h4
    rw [if_neg h2, if_neg h3, if_neg h4] at h
    exact start_iv hd h
theorem feed_iv {M : Sm} {c i : Nat} (v : Iv M i) (h : (feed M c i).1 = 0) : Iv (feed M c i).2 (i + 1) := by
  have hl := feed_len M c i
  have hl2 := v.l
  have hf := v.fr
  have key : (feed M c i).2.dep ≤ 512 ∧ (feed M c i).2.fr ≤ i + 1 ∧ ((feed M c i).2.st = 1 → (feed M c i).2.dep ≠ 0) := by
    unfold feed at h ⊢
    split
    · split
      · exact ⟨v.d, by simp; omega, fun e => aft_one e⟩
      split
      · exact ⟨v.d, by simp; omega, fun e => by cases e⟩
      · exact ⟨v.d, Nat.le_succ_of_le hf, v.one⟩
    rename_i n4
    rw [if_neg n4] at h
    split
    · exact ⟨v.d, by simp; omega, fun e => by cases e⟩
    rename_i n5
    rw [if_neg n5] at h
    split
    · rename_i n3
      rw [if_pos n3] at h
      split
      · exact ⟨v.d, Nat.le_succ_of_le hf, v.one⟩
      · rename_i np
        rw [if_neg np] at h
        exact feedB_iv (M := ⟨aft M.dep, M.dep, M.fr, M.l ++ [(5, M.fr, i - M.fr)]⟩) v.d hf (fun e => aft_one e) h
    rename_i n3
    rw [if_neg n3] at h
    split
    · rename_i n2
      rw [if_pos n2] at h
      split
      · exact ⟨v.d, by simp; omega, fun e => by cases e⟩
      · rename_i np
        rw [if_neg np] at h
        exact feedB_iv (M := ⟨0, M.dep, M.fr, M.l ++ [(6, M.fr, i - M.fr)]⟩) v.d hf (fun e => by cases e) h
    rename_i n2
    rw [if_neg n2] at h
    exact feedB_iv v.d hf v.one h
  exact ⟨key.1, key.2.1, by omega, key.2.2⟩
theorem b_not {c : Nat} (h0 : c ≠ 32) (h1 : c ≠ 9) (h2 : c ≠ 10) (h3 : c ≠ 13) : isB c = false := by simp [isB, h0, h1, h2, h3]

set_option maxHeartbeats 8000000 in
theorem feed4 {B K : Nat} {w0 w : World} {dep fr : Nat} {T : List Tk} (h : MM B K w0 w ⟨4, dep, fr, T⟩) (c i : Nat) (hi : i ≤ 100000) (v : Iv ⟨4, dep, fr, T⟩ i) :
    Calls Try.prog 39 #[.pointer (some ⟨K, 0, none⟩), .int .u8 (c : Nat), .int .i64 (i : Nat)] w (Does B K w0 (feed ⟨4, dep, fr, T⟩ c i)) := by
  have hfr : fr ≤ i := v.fr
  have hT : T.length ≤ 2 * i := v.l
  have hd : dep ≤ 512 := v.d
  have h1 := v.one
  simp only at h1
  clear v
  obtain ⟨M, hM⟩ : ∃ M, M = (⟨4, dep, fr, T⟩ : Sm) := ⟨_, rfl⟩
  have hm := h
  rw [← hM] at h ⊢
  have HM := hidden hM
  clear hM h
  obtain ⟨lv, h⟩ := hm
  simp only at h
  have c0 := h.c0
  have c2 := h.c2
  have f0 := h.free 0
  rw [show ((4 : Nat) : Int) = 4 from rfl] at c0
  by_cases q : c = 34
  · have z : ((c : Int) == 34) = true := by simp; omega
    have HF : Hid (feed M c i = (0, ⟨aft dep, dep, fr, T ++ [(5, fr, i + 1 - fr)]⟩)) := by unfold Hid; rw [HM.out]; simp [feed, q]
    have ct := mtoken (M := ⟨4, dep, fr, T⟩) ⟨lv, h⟩ 5 fr (i + 1) (by omega) (by omega) (by simp only; omega)
    rw [show ((i + 1 : Nat) : Int) = (i : Int) + 1 by omega] at ct
    clear h q HM
    go_enter Try.func39, Try.ntmps39
    go_wp2_with fail
    refine ct.mono ?_
    clear ct
    rintro e w4 ⟨rfl, h4⟩
    have cd := mdone h4
    clear h4
    go_wp2_with fail
    refine cd.mono ?_
    clear cd
    rintro e w5 ⟨rfl, h5⟩
    have H5 := hidden h5
    clear h5
    go_wp2_with fail
    go_ret
    rw [HF.out]
    exact ⟨rfl, H5.out⟩
  have z : ((c : Int) == 34) = false := by simp; omega
  by_cases q9 : c = 92
  · have z9 : ((c : Int) == 92) = true := by simp; omega
    have HF : Hid (feed M c i = (0, ⟨5, dep, fr, T⟩)) := by unfold Hid; rw [HM.out]; simp [feed, q9]
    have H2 := hidden (h.state 5)
    clear h q q9 HM
    go_enter Try.func39, Try.ntmps39
    go_wp2_with fail
    go_ret
    rw [HF.out]
    exact ⟨rfl, lv, by simpa using H2.out⟩
  have z9 : ((c : Int) == 92) = false := by simp; omega
  have HF : Hid (feed M c i = (0, ⟨4, dep, fr, T⟩)) := by unfold Hid; rw [HM.out]; simp [feed, q, q9]
  have H2 := hidden h
  clear h q q9 HM
  go_enter Try.func39, Try.ntmps39
  go_wp2_with fail
  go_ret
  rw [HF.out]
  exact ⟨rfl, lv, H2.out⟩

set_option maxHeartbeats 8000000 in
theorem feed5 {B K : Nat} {w0 w : World} {dep fr : Nat} {T : List Tk} (h : MM B K w0 w ⟨5, dep, fr, T⟩) (c i : Nat) (hi : i ≤ 100000) (v : Iv ⟨5, dep, fr, T⟩ i) :
    Calls Try.prog 39 #[.pointer (some ⟨K, 0, none⟩), .int .u8 (c : Nat), .int .i64 (i : Nat)] w (Does B K w0 (feed ⟨5, dep, fr, T⟩ c i)) := by
  have hfr : fr ≤ i := v.fr
  have hT : T.length ≤ 2 * i := v.l
  have hd : dep ≤ 512 := v.d
  have h1 := v.one
  simp only at h1
  clear v
  obtain ⟨M, hM⟩ : ∃ M, M = (⟨5, dep, fr, T⟩ : Sm) := ⟨_, rfl⟩
  have hm := h
  rw [← hM] at h ⊢
  have HM := hidden hM
  clear hM h
  obtain ⟨lv, h⟩ := hm
  simp only at h
  have c0 := h.c0
  have c2 := h.c2
  have f0 := h.free 0
  rw [show ((5 : Nat) : Int) = 5 from rfl] at c0
  have HF : Hid (feed M c i = (0, ⟨4, dep, fr, T⟩)) := by unfold Hid; rw [HM.out]; simp [feed]
  have H2 := hidden (h.state 4)
  clear h HM
  go_enter Try.func39, Try.ntmps39
  go_wp2_with fail
  go_ret
  rw [HF.out]
  exact ⟨rfl, lv, by simpa using H2.out⟩

set_option maxHeartbeats 8000000 in
theorem feed3 {B K : Nat} {w0 w : World} {dep fr : Nat} {T : List Tk} (h : MM B K w0 w ⟨3, dep, fr, T⟩) (c i : Nat) (hi : i ≤ 100000) (v : Iv ⟨3, dep, fr, T⟩ i) :
    Calls Try.prog 39 #[.pointer (some ⟨K, 0, none⟩), .int .u8 (c : Nat), .int .i64 (i : Nat)] w (Does B K w0 (feed ⟨3, dep, fr, T⟩ c i)) := by
  have hfr : fr ≤ i := v.fr
  have hT : T.length ≤ 2 * i := v.l
  have hd : dep ≤ 512 := v.d
  have h1 := v.one
  simp only at h1
  clear v
  obtain ⟨M, hM⟩ : ∃ M, M = (⟨3, dep, fr, T⟩ : Sm) := ⟨_, rfl⟩
  have hm := h
  rw [← hM] at h ⊢
  have HM := hidden hM
  clear hM h
  obtain ⟨lv, h⟩ := hm
  simp only at h
  have c0 := h.c0
  have c2 := h.c2
  have f0 := h.free 0
  rw [show ((3 : Nat) : Int) = 3 from rfl] at c0
  have cp := part_any c
  cases hp : isP c with
  | true =>
    rw [hp] at cp
    have HF : Hid (feed M c i = (0, ⟨3, dep, fr, T⟩)) := by unfold Hid; rw [HM.out]; simp [feed, hp]
    have H2 := hidden h
    clear h HM hp
    go_enter Try.func39, Try.ntmps39
    go_wp2_with fail
    refine (cp _).mono ?_
    rintro e w1 ⟨rfl, rfl⟩
    go_wp2_with fail
    go_ret
    rw [HF.out]
    exact ⟨rfl, lv, H2.out⟩
  | false =>
    rw [hp] at cp
    have HE : Hid (feed M c i = feedB ⟨aft dep, dep, fr, T ++ [(5, fr, i - fr)]⟩ c i) := by unfold Hid; rw [HM.out]; simp [feed, hp]
    have ct := mtoken (M := ⟨3, dep, fr, T⟩) ⟨lv, h⟩ 5 fr i (by omega) (by omega) (by simp only; omega)
    clear h HM hp
    go_enter Try.func39, Try.ntmps39
    go_wp2_with fail
    refine (cp _).mono ?_
    rintro e w1 ⟨rfl, rfl⟩
    go_wp2_with fail
    refine ct.mono ?_
    clear ct cp c0 c2 f0
    rintro e w4 ⟨rfl, h4⟩
    have cd := mdone h4
    clear h4
    go_wp2_with fail
    refine cd.mono ?_
    clear cd
    rintro e wa ⟨rfl, hm⟩
    have hT2 : (T ++ [(5, fr, i - fr)]).length ≤ 900000 := by simp; omega
    have h1d : aft dep = 1 → dep ≠ 0 := aft_one
    clear h1
    try simp only at hm
    generalize aft dep = s2 at *
    generalize T ++ [(5, fr, i - fr)] = T2 at *
    obtain ⟨lv2, h⟩ := hm
    simp only at h
    have d0 := h.c0
    have d1 := h.c1
    have g1 := h.free 1
    have H := hidden h
    have cst := mstart (M := ⟨s2, dep, fr, T2⟩) ⟨lv2, h⟩ c i (by omega) hd (by simp only; omega)
    clear h
    by_cases q32 : c = 32
    · have z32 : ((c : Int) == 32) = true := by simp; omega
      have HF : Hid (feed M c i = (0, ⟨s2, dep, fr, T2⟩)) := HE.out.trans (by simp [feedB, isB, q32])
      clear HE cst q32
      go_wp2_with fail
      go_ret
      rw [HF.out]
      exact ⟨rfl, lv2, H.out⟩
    have z32 : ((c : Int) == 32) = false := by simp; omega
    by_cases q9 : c = 9
    · have z9 : ((c : Int) == 9) = true := by simp; omega
      have HF : Hid (feed M c i = (0, ⟨s2, dep, fr, T2⟩)) := HE.out.trans (by simp [feedB, isB, q9])
      clear HE cst q9
      go_wp2_with fail
      go_ret
      rw [HF.out]
      exact ⟨rfl, lv2, H.out⟩
    have z9 : ((c : Int) == 9) = false := by simp; omega
    by_cases q10 : c = 10
    · have z10 : ((c : Int) == 10) = true := by simp; omega
      have HF : Hid (feed M c i = (0, ⟨s2, dep, fr, T2⟩)) := HE.out.trans (by simp [feedB, isB, q10])
      clear HE cst q10
      go_wp2_with fail
      go_ret
      rw [HF.out]
      exact ⟨rfl, lv2, H.out⟩
    have z10 : ((c : Int) == 10) = false := by simp; omega
    by_cases q13 : c = 13
    · have z13 : ((c : Int) == 13) = true := by simp; omega
      have HF : Hid (feed M c i = (0, ⟨s2, dep, fr, T2⟩)) := HE.out.trans (by simp [feedB, isB, q13])
      clear HE cst q13
      go_wp2_with fail
      go_ret
      rw [HF.out]
      exact ⟨rfl, lv2, H.out⟩
    have z13 : ((c : Int) == 13) = false := by simp; omega
    have hb := b_not q32 q9 q10 q13
    clear q32 q9 q10 q13
    by_cases q6 : s2 = 6
    · have z6 : ((s2 : Int) == 6) = true := by simp; omega
      have HF : Hid (feed M c i = (5, ⟨s2, dep, fr, T2⟩)) := HE.out.trans (by simp [feedB, hb, q6])
      clear HE cst q6 hb h1d
      go_wp2_with fail
      go_ret
      rw [HF.out]
      exact ⟨rfl, lv2, H.out⟩
    have z6 : ((s2 : Int) == 6) = false := by simp; omega
    have HST : Hid (¬ (c = 41 ∧ s2 = 1) → feed M c i = start ⟨s2, dep, fr, T2⟩ c i) := fun q => HE.out.trans (by unfold feedB; rw [if_neg (by simp [hb]), if_neg q6, if_neg q])
    have HCL : Hid (c = 41 ∧ s2 = 1 → feed M c i = (0, ⟨aft (dep - 1), dep - 1, fr, T2 ++ [(2, i, 1)]⟩)) := fun q => HE.out.trans (by unfold feedB; rw [if_neg (by simp [hb]), if_neg q6, if_pos q])
    clear HE hb q6
    by_cases q41 : c = 41
    · have z41 : ((c : Int) == 41) = true := by simp; omega
      by_cases q1 : s2 = 1
      · have z1 : ((s2 : Int) == 1) = true := by simp; omega
        have hdp := h1d q1
        have HF := hidden (HCL.out ⟨q41, q1⟩)
        have h2 := H.out.deep (dep - 1)
        have ct := mtoken (M := ⟨s2, dep - 1, fr, T2⟩) ⟨lv2, h2⟩ 2 i (i + 1) (by omega) (by omega) (by simp only; omega)
        rw [show i + 1 - i = 1 by omega] at ct
        rw [show ((dep - 1 : Nat) : Int) = (dep : Int) - 1 by omega] at ct
        clear HST HCL q41 q1 h1d hdp H h2 cst
        go_wp2_with fail
        refine ct.mono ?_
        clear ct
        rintro e w4 ⟨rfl, h4⟩
        have cd := mdone h4
        clear h4
        go_wp2_with fail
        refine cd.mono ?_
        clear cd
        rintro e w5 ⟨rfl, h5⟩
        have H5 := hidden h5
        clear h5
        go_wp2_with fail
        go_ret
        rw [HF.out]
        exact ⟨rfl, H5.out⟩
      · have z1 : ((s2 : Int) == 1) = false := by simp; omega
        have HF := hidden (HST.out (fun q => q1 q.2))
        clear HST HCL q41 q1 h1d H
        rw [← HF.out] at cst
        go_wp2_with fail
        refine cst.mono ?_
        clear cst
        rintro e w4 ⟨rfl, h4⟩
        have H4 := hidden h4
        clear h4
        go_wp2_with fail
        go_ret
        exact ⟨rfl, H4.out⟩
    · have z41 : ((c : Int) == 41) = false := by simp; omega
      have HF := hidden (HST.out (fun q => q41 q.1))
      clear HST HCL q41 h1d H
      rw [← HF.out] at cst
      go_wp2_with fail
      refine cst.mono ?_
      clear cst
      rintro e w4 ⟨rfl, h4⟩
      have H4 := hidden h4
      clear h4
      go_wp2_with fail
      go_ret
      exact ⟨rfl, H4.out⟩

set_option maxHeartbeats 8000000 in
theorem feed2 {B K : Nat} {w0 w : World} {dep fr : Nat} {T : List Tk} (h : MM B K w0 w ⟨2, dep, fr, T⟩) (c i : Nat) (hi : i ≤ 100000) (v : Iv ⟨2, dep, fr, T⟩ i) :
    Calls Try.prog 39 #[.pointer (some ⟨K, 0, none⟩), .int .u8 (c : Nat), .int .i64 (i : Nat)] w (Does B K w0 (feed ⟨2, dep, fr, T⟩ c i)) := by
  have hfr : fr ≤ i := v.fr
  have hT : T.length ≤ 2 * i := v.l
  have hd : dep ≤ 512 := v.d
  have h1 := v.one
  simp only at h1
  clear v
  obtain ⟨M, hM⟩ : ∃ M, M = (⟨2, dep, fr, T⟩ : Sm) := ⟨_, rfl⟩
  have hm := h
  rw [← hM] at h ⊢
  have HM := hidden hM
  clear hM h
  obtain ⟨lv, h⟩ := hm
  simp only at h
  have c0 := h.c0
  have c2 := h.c2
  have f0 := h.free 0
  rw [show ((2 : Nat) : Int) = 2 from rfl] at c0
  have h0 := h.state 0
  have e2 := h0.c2
  rw [show ((0 : Nat) : Int) = 0 from rfl] at e2
  by_cases q : c = 64
  · have z : ((c : Int) == 64) = true := by simp; omega
    have HF : Hid (feed M c i = (0, ⟨0, dep, fr, T ++ [(6, fr, i + 1 - fr)]⟩)) := by unfold Hid; rw [HM.out]; simp [feed, q]
    have ct := mtoken (M := ⟨0, dep, fr, T⟩) ⟨lv, h0⟩ 6 fr (i + 1) (by omega) (by omega) (by simp only; omega)
    rw [show ((i + 1 : Nat) : Int) = (i : Int) + 1 by omega, show ((0 : Nat) : Int) = 0 from rfl] at ct
    clear h h0 q HM
    go_enter Try.func39, Try.ntmps39
    go_wp2_with fail
    refine ct.mono ?_
    clear ct
    rintro e w4 ⟨rfl, h4⟩
    have H4 := hidden h4
    clear h4
    go_wp2_with fail
    go_ret
    rw [HF.out]
    exact ⟨rfl, H4.out⟩
  have z : ((c : Int) == 64) = false := by simp; omega
  have HE : Hid (feed M c i = feedB ⟨0, dep, fr, T ++ [(6, fr, i - fr)]⟩ c i) := by unfold Hid; rw [HM.out]; simp [feed, q]
  have ct := mtoken (M := ⟨0, dep, fr, T⟩) ⟨lv, h0⟩ 6 fr i (by omega) (by omega) (by simp only; omega)
  rw [show ((0 : Nat) : Int) = 0 from rfl] at ct
  clear h h0 HM q
  go_enter Try.func39, Try.ntmps39
  go_wp2_with fail
  refine ct.mono ?_
  clear ct c0 c2 f0 e2
  rintro e wa ⟨rfl, hm⟩
  have hT2 : (T ++ [(6, fr, i - fr)]).length ≤ 900000 := by simp; omega
  obtain ⟨s2, hs2⟩ : ∃ s2, s2 = 0 := ⟨_, rfl⟩
  have h1d : s2 = 1 → dep ≠ 0 := fun e => by omega
  rw [← hs2] at HE hm
  clear h1 hs2
  try simp only at hm
  generalize T ++ [(6, fr, i - fr)] = T2 at *
  obtain ⟨lv2, h⟩ := hm
  simp only at h
  have d0 := h.c0
  have d1 := h.c1
  have g1 := h.free 1
  have H := hidden h
  have cst := mstart (M := ⟨s2, dep, fr, T2⟩) ⟨lv2, h⟩ c i (by omega) hd (by simp only; omega)
  clear h
  by_cases q32 : c = 32
  · have z32 : ((c : Int) == 32) = true := by simp; omega
    have HF : Hid (feed M c i = (0, ⟨s2, dep, fr, T2⟩)) := HE.out.trans (by simp [feedB, isB, q32])
    clear HE cst q32
    go_wp2_with fail
    go_ret
    rw [HF.out]
    exact ⟨rfl, lv2, H.out⟩
  have z32 : ((c : Int) == 32) = false := by simp; omega
  by_cases q9 : c = 9
  · have z9 : ((c : Int) == 9) = true := by simp; omega
    have HF : Hid (feed M c i = (0, ⟨s2, dep, fr, T2⟩)) := HE.out.trans (by simp [feedB, isB, q9])
    clear HE cst q9
    go_wp2_with fail
    go_ret
    rw [HF.out]
    exact ⟨rfl, lv2, H.out⟩
  have z9 : ((c : Int) == 9) = false := by simp; omega
  by_cases q10 : c = 10
  · have z10 : ((c : Int) == 10) = true := by simp; omega
    have HF : Hid (feed M c i = (0, ⟨s2, dep, fr, T2⟩)) := HE.out.trans (by simp [feedB, isB, q10])
    clear HE cst q10
    go_wp2_with fail
    go_ret
    rw [HF.out]
    exact ⟨rfl, lv2, H.out⟩
  have z10 : ((c : Int) == 10) = false := by simp; omega
  by_cases q13 : c = 13
  · have z13 : ((c : Int) == 13) = true := by simp; omega
    have HF : Hid (feed M c i = (0, ⟨s2, dep, fr, T2⟩)) := HE.out.trans (by simp [feedB, isB, q13])
    clear HE cst q13
    go_wp2_with fail
    go_ret
    rw [HF.out]
    exact ⟨rfl, lv2, H.out⟩
  have z13 : ((c : Int) == 13) = false := by simp; omega
  have hb := b_not q32 q9 q10 q13
  clear q32 q9 q10 q13
  by_cases q6 : s2 = 6
  · have z6 : ((s2 : Int) == 6) = true := by simp; omega
    have HF : Hid (feed M c i = (5, ⟨s2, dep, fr, T2⟩)) := HE.out.trans (by simp [feedB, hb, q6])
    clear HE cst q6 hb h1d
    go_wp2_with fail
    go_ret
    rw [HF.out]
    exact ⟨rfl, lv2, H.out⟩
  have z6 : ((s2 : Int) == 6) = false := by simp; omega
  have HST : Hid (¬ (c = 41 ∧ s2 = 1) → feed M c i = start ⟨s2, dep, fr, T2⟩ c i) := fun q => HE.out.trans (by unfold feedB; rw [if_neg (by simp [hb]), if_neg q6, if_neg q])
  have HCL : Hid (c = 41 ∧ s2 = 1 → feed M c i = (0, ⟨aft (dep - 1), dep - 1, fr, T2 ++ [(2, i, 1)]⟩)) := fun q => HE.out.trans (by unfold feedB; rw [if_neg (by simp [hb]), if_neg q6, if_pos q])
  clear HE hb q6
  by_cases q41 : c = 41
  · have z41 : ((c : Int) == 41) = true := by simp; omega
    by_cases q1 : s2 = 1
    · have z1 : ((s2 : Int) == 1) = true := by simp; omega
      have hdp := h1d q1
      have HF := hidden (HCL.out ⟨q41, q1⟩)
      have h2 := H.out.deep (dep - 1)
      have ct := mtoken (M := ⟨s2, dep - 1, fr, T2⟩) ⟨lv2, h2⟩ 2 i (i + 1) (by omega) (by omega) (by simp only; omega)
      rw [show i + 1 - i = 1 by omega] at ct
      rw [show ((dep - 1 : Nat) : Int) = (dep : Int) - 1 by omega] at ct
      clear HST HCL q41 q1 h1d hdp H h2 cst
      go_wp2_with fail
      refine ct.mono ?_
      clear ct
      rintro e w4 ⟨rfl, h4⟩
      have cd := mdone h4
      clear h4
      go_wp2_with fail
      refine cd.mono ?_
      clear cd
      rintro e w5 ⟨rfl, h5⟩
      have H5 := hidden h5
      clear h5
      go_wp2_with fail
      go_ret
      rw [HF.out]
      exact ⟨rfl, H5.out⟩
    · have z1 : ((s2 : Int) == 1) = false := by simp; omega
      have HF := hidden (HST.out (fun q => q1 q.2))
      clear HST HCL q41 q1 h1d H
      rw [← HF.out] at cst
      go_wp2_with fail
      refine cst.mono ?_
      clear cst
      rintro e w4 ⟨rfl, h4⟩
      have H4 := hidden h4
      clear h4
      go_wp2_with fail
      go_ret
      exact ⟨rfl, H4.out⟩
  · have z41 : ((c : Int) == 41) = false := by simp; omega
    have HF := hidden (HST.out (fun q => q41 q.1))
    clear HST HCL q41 h1d H
    rw [← HF.out] at cst
    go_wp2_with fail
    refine cst.mono ?_
    clear cst
    rintro e w4 ⟨rfl, h4⟩
    have H4 := hidden h4
    clear h4
    go_wp2_with fail
    go_ret
    exact ⟨rfl, H4.out⟩

set_option maxHeartbeats 8000000 in
theorem feedx {B K : Nat} {w0 w : World} {s2 dep fr : Nat} {T : List Tk} (h : MM B K w0 w ⟨s2, dep, fr, T⟩) (c i : Nat) (hi : i ≤ 100000) (hs : s2 = 0 ∨ s2 = 1 ∨ s2 = 6) (v : Iv ⟨s2, dep, fr, T⟩ i) :
    Calls Try.prog 39 #[.pointer (some ⟨K, 0, none⟩), .int .u8 (c : Nat), .int .i64 (i : Nat)] w (Does B K w0 (feed ⟨s2, dep, fr, T⟩ c i)) := by
  have hfr : fr ≤ i := v.fr
  have hT : T.length ≤ 2 * i := v.l
  have hd : dep ≤ 512 := v.d
  have h1 := v.one
  simp only at h1
  clear v
  obtain ⟨M, hM⟩ : ∃ M, M = (⟨s2, dep, fr, T⟩ : Sm) := ⟨_, rfl⟩
  have hm := h
  rw [← hM] at h ⊢
  have HM := hidden hM
  clear hM h
  obtain ⟨lv, h⟩ := hm
  simp only at h
  have c0 := h.c0
  have c2 := h.c2
  have f0 := h.free 0
  have z4 : ((s2 : Int) == 4) = false := by simp; omega
  have z5 : ((s2 : Int) == 5) = false := by simp; omega
  have z3 : ((s2 : Int) == 3) = false := by simp; omega
  have z2 : ((s2 : Int) == 2) = false := by simp; omega
  have HE : Hid (feed M c i = feedB ⟨s2, dep, fr, T⟩ c i) := by
    unfold Hid; rw [HM.out]
    rcases hs with rfl | rfl | rfl <;> rfl
  have hm : MM B K w0 w ⟨s2, dep, fr, T⟩ := ⟨lv, h⟩
  have h1d := h1
  have hT2 : T.length ≤ 900000 := by omega
  clear h h1 c2 f0 hs HM hT
  generalize T = T2 at *
  clear c0
  obtain ⟨lv2, h⟩ := hm
  simp only at h
  have d0 := h.c0
  have d1 := h.c1
  have g1 := h.free 1
  have H := hidden h
  have cst := mstart (M := ⟨s2, dep, fr, T2⟩) ⟨lv2, h⟩ c i (by omega) hd (by simp only; omega)
  clear h
  by_cases q32 : c = 32
  · have z32 : ((c : Int) == 32) = true := by simp; omega
    have HF : Hid (feed M c i = (0, ⟨s2, dep, fr, T2⟩)) := HE.out.trans (by simp [feedB, isB, q32])
    clear HE cst q32
    go_enter Try.func39, Try.ntmps39
    go_wp2_with fail
    go_ret
    rw [HF.out]
    exact ⟨rfl, lv2, H.out⟩
  have z32 : ((c : Int) == 32) = false := by simp; omega
  by_cases q9 : c = 9
  · have z9 : ((c : Int) == 9) = true := by simp; omega
    have HF : Hid (feed M c i = (0, ⟨s2, dep, fr, T2⟩)) := HE.out.trans (by simp [feedB, isB, q9])
    clear HE cst q9
    go_enter Try.func39, Try.ntmps39
    go_wp2_with fail
    go_ret
    rw [HF.out]
    exact ⟨rfl, lv2, H.out⟩
  have z9 : ((c : Int) == 9) = false := by simp; omega
  by_cases q10 : c = 10
  · have z10 : ((c : Int) == 10) = true := by simp; omega
    have HF : Hid (feed M c i = (0, ⟨s2, dep, fr, T2⟩)) := HE.out.trans (by simp [feedB, isB, q10])
    clear HE cst q10
    go_enter Try.func39, Try.ntmps39
    go_wp2_with fail
    go_ret
    rw [HF.out]
    exact ⟨rfl, lv2, H.out⟩
  have z10 : ((c : Int) == 10) = false := by simp; omega
  by_cases q13 : c = 13
  · have z13 : ((c : Int) == 13) = true := by simp; omega
    have HF : Hid (feed M c i = (0, ⟨s2, dep, fr, T2⟩)) := HE.out.trans (by simp [feedB, isB, q13])
    clear HE cst q13
    go_enter Try.func39, Try.ntmps39
    go_wp2_with fail
    go_ret
    rw [HF.out]
    exact ⟨rfl, lv2, H.out⟩
  have z13 : ((c : Int) == 13) = false := by simp; omega
  have hb := b_not q32 q9 q10 q13
  clear q32 q9 q10 q13
  by_cases q6 : s2 = 6
  · have z6 : ((s2 : Int) == 6) = true := by simp; omega
    have HF : Hid (feed M c i = (5, ⟨s2, dep, fr, T2⟩)) := HE.out.trans (by simp [feedB, hb, q6])
    clear HE cst q6 hb h1d
    go_enter Try.func39, Try.ntmps39
    go_wp2_with fail
    go_ret
    rw [HF.out]
    exact ⟨rfl, lv2, H.out⟩
  have z6 : ((s2 : Int) == 6) = false := by simp; omega
  have HST : Hid (¬ (c = 41 ∧ s2 = 1) → feed M c i = start ⟨s2, dep, fr, T2⟩ c i) := fun q => HE.out.trans (by unfold feedB; rw [if_neg (by simp [hb]), if_neg q6, if_neg q])
  have HCL : Hid (c = 41 ∧ s2 = 1 → feed M c i = (0, ⟨aft (dep - 1), dep - 1, fr, T2 ++ [(2, i, 1)]⟩)) := fun q => HE.out.trans (by unfold feedB; rw [if_neg (by simp [hb]), if_neg q6, if_pos q])
  clear HE hb q6
  by_cases q41 : c = 41
  · have z41 : ((c : Int) == 41) = true := by simp; omega
    by_cases q1 : s2 = 1
    · have z1 : ((s2 : Int) == 1) = true := by simp; omega
      have hdp := h1d q1
      have HF := hidden (HCL.out ⟨q41, q1⟩)
      have h2 := H.out.deep (dep - 1)
      have ct := mtoken (M := ⟨s2, dep - 1, fr, T2⟩) ⟨lv2, h2⟩ 2 i (i + 1) (by omega) (by omega) (by simp only; omega)
      rw [show i + 1 - i = 1 by omega] at ct
      rw [show ((dep - 1 : Nat) : Int) = (dep : Int) - 1 by omega] at ct
      clear HST HCL q41 q1 h1d hdp H h2 cst
      go_enter Try.func39, Try.ntmps39
      go_wp2_with fail
      refine ct.mono ?_
      clear ct
      rintro e w4 ⟨rfl, h4⟩
      have cd := mdone h4
      clear h4
      go_wp2_with fail
      refine cd.mono ?_
      clear cd
      rintro e w5 ⟨rfl, h5⟩
      have H5 := hidden h5
      clear h5
      go_wp2_with fail
      go_ret
      rw [HF.out]
      exact ⟨rfl, H5.out⟩
    · have z1 : ((s2 : Int) == 1) = false := by simp; omega
      have HF := hidden (HST.out (fun q => q1 q.2))
      clear HST HCL q41 q1 h1d H
      rw [← HF.out] at cst
      go_enter Try.func39, Try.ntmps39
      go_wp2_with fail
      refine cst.mono ?_
      clear cst
      rintro e w4 ⟨rfl, h4⟩
      have H4 := hidden h4
      clear h4
      go_wp2_with fail
      go_ret
      exact ⟨rfl, H4.out⟩
  · have z41 : ((c : Int) == 41) = false := by simp; omega
    have HF := hidden (HST.out (fun q => q41 q.1))
    clear HST HCL q41 h1d H
    rw [← HF.out] at cst
    go_enter Try.func39, Try.ntmps39
    go_wp2_with fail
    refine cst.mono ?_
    clear cst
    rintro e w4 ⟨rfl, h4⟩
    have H4 := hidden h4
    clear h4
    go_wp2_with fail
    go_ret
    exact ⟨rfl, H4.out⟩

theorem feed_any {B K : Nat} {w0 w : World} {M : Sm} (h : MM B K w0 w M) (c i : Nat) (hi : i ≤ 100000) (hs : M.st ≤ 6) (v : Iv M i) :
    Calls Try.prog 39 #[.pointer (some ⟨K, 0, none⟩), .int .u8 (c : Nat), .int .i64 (i : Nat)] w (Does B K w0 (feed M c i)) := by
  obtain ⟨st, dep, fr, T⟩ := M
  simp only at hs
  by_cases q4 : st = 4
  · subst q4; exact feed4 h c i hi v
  by_cases q5 : st = 5
  · subst q5; exact feed5 h c i hi v
  by_cases q3 : st = 3
  · subst q3; exact feed3 h c i hi v
  by_cases q2 : st = 2
  · subst q2; exact feed2 h c i hi v
  exact feedx h c i hi (by omega) v
end Go.Proofs.PlatenSexp

/- What the document's Read comes to. -/
namespace Go.Proofs.PlatenSexp
open Go Go.RowKit
set_option linter.unusedVariables false
set_option maxRecDepth 100000

theorem aft_le (d : Nat) : aft d ≤ 6 := by rcases aft_cases d with ⟨e, _⟩ | ⟨e, _⟩ <;> omega
theorem start_st {M : Sm} {c i : Nat} (h : M.st ≤ 6) : (start M c i).2.st ≤ 6 := by
  unfold start
  split
  · simp
  split
  · simp
  split
  · split
    · exact h
    · simp
  split
  · simp
  split
  · simp
  · exact h
theorem feedB_st {M : Sm} {c i : Nat} (h : M.st ≤ 6) : (feedB M c i).2.st ≤ 6 := by
  unfold feedB
  split
  · exact h
  split
  · exact h
  split
  · exact aft_le _
  · exact start_st h
theorem feed_st {M : Sm} {c i : Nat} (h : M.st ≤ 6) : (feed M c i).2.st ≤ 6 := by
  unfold feed
  split
  · split
    · exact aft_le _
    split
    · simp
    · exact h
  split
  · simp
  split
  · split
    · exact h
    · exact feedB_st (aft_le _)
  split
  · split
    · simp
    · exact feedB_st (by simp)
  · exact feedB_st h
theorem iv0 : Iv M0 0 := ⟨by decide, by decide, by decide, fun e => absurd e (by decide)⟩

set_option maxHeartbeats 8000000 in
theorem rread_any (v : Value) (n : Nat) (f : Nat → Nat) (w : World) (hf : ∀ j, f j < 256) (hn : n ≤ 100000) (h : Row w v n f) :
    Calls Try.prog 24 #[v] w (RdP w (ans f n)) := by
  have HR := hidden h
  obtain ⟨a, cap, rfl, _⟩ := h
  have Hf := hidden hf
  have Ho : Hid (ans f n = out f n M0 0) := rfl
  generalize ans f n = o at *
  clear hf
  have H0 : Hid (MM w.heap.size w.heap.size w (w.alloc (.cells #[.int .u8 0, .int .i64 0, .int .i64 0, .slice none 0 0] 73)) M0) :=
    ⟨_, Nat.le_refl _, by simp, heap_alloc_new _ _, World.ownsRow_nil _ _ _ _, (Below.refl _ _).alloc (Nat.le_refl _) _⟩
  go_enter Try.func24, Try.ntmps24
  go_wp2_with fail
  generalize w.alloc (.cells #[.int .u8 0, .int .i64 0, .int .i64 0, .slice none 0 0] 73) = wa at *
  go_loopw [6, 7] (fun i e wr => ∃ (k : Nat) (M : Sm), k ≤ n ∧ i = .int .i64 (k : Nat) ∧ MM w.heap.size w.heap.size w wr M ∧ Iv M k ∧ M.st ≤ 6 ∧ o = out f n M k) (fun i _ _ => n - (intOf i).toNat)
  case atStart => exact ⟨0, M0, Nat.zero_le _, rfl, H0.out, iv0, by decide, Ho.out⟩
  case round =>
    obtain ⟨k, M, hk, rfl, hm, hv, hs, ho⟩ := hrel
    clear H0 Ho
    by_cases hlt : k < n
    · have hlz : (k : Int) < (n : Int) := by omega
      obtain ⟨a', cap', hva, hrow⟩ := HR.out
      injection hva with e1 e2 e3
      subst e1 e3
      obtain ⟨b, off, rfl, hcap, hc⟩ := hrow (by omega)
      have g0 := hc k hlt
      have hbel := hm.choose_spec.bel
      rw [← hbel.cell (p := ⟨b, off + k, none⟩) (World.block_lt_of_cell? _ _ g0)] at g0
      have cf := feed_any hm (f k) k (by omega) hs hv
      have Hv := hidden hv
      have HO := hidden ho
      have Hst := hidden hs
      clear hc hrow hbel hv ho e2 hm hs
      cases hx : (feed M (f k) k).1 with
      | zero =>
        have Hout := hidden (HO.out.trans (out_ok (M' := (feed M (f k) k).2) hlt (by rw [← hx])))
        have Hv2 := hidden (feed_iv Hv.out hx)
        have Hs2 : Hid ((feed M (f k) k).2.st ≤ 6) := feed_st Hst.out
        unfold Does at cf
        rw [hx] at cf
        generalize (feed M (f k) k).2 = M' at *
        clear hx
        generalize f k = c at *
        go_wp2_with fail
        refine cf.mono ?_
        rintro e w2 ⟨rfl, h2⟩
        have H2 := hidden h2
        clear cf h2
        go_wp2_with fail
        go_roundw
        case rel => exact ⟨k + 1, M', by omega, by go_num, H2.out, Hv2.out, Hs2.out, Hout.out⟩
        case measure => simp [intOf]; omega
      | succ x =>
        have Hout := hidden (HO.out.trans (out_no (M' := (feed M (f k) k).2) (x := x + 1) hlt (by rw [← hx]) (by omega)))
        unfold Does at cf
        rw [hx] at cf
        have hxz : (((x + 1 : Nat) : Int) != 0) = true := by rw [bne_iff_ne]; omega
        generalize (feed M (f k) k).2 = M' at *
        clear hx
        generalize f k = c at *
        generalize x + 1 = x' at *
        go_wp2_with fail
        refine cf.mono ?_
        rintro e w2 ⟨rfl, lv, h2⟩
        have H2 := hidden h2
        clear cf h2
        go_wp2_with fail
        go_ret3
        rw [Hout.out]
        exact ⟨_, rfl, isTk_nil _, H2.out.bel⟩
    · obtain rfl : k = n := by omega
      have hlz : ¬ ((k : Int) < (k : Int)) := by omega
      have HO : Hid (o = fin' M k) := by rw [out_end] at ho; exact ho
      have hl := hv.l
      have hfr := hv.fr
      have ct := mtoken hm 5 M.fr k hfr (by omega) (by omega)
      obtain ⟨lv, h⟩ := hm
      have c0 := h.c0
      have c2 := h.c2
      clear ho hs
      unfold fin' at HO
      by_cases he : M.st = 3
      · have ze : ((M.st : Int) == 3) = true := by simp; omega
        rw [if_pos he] at HO
        clear h hv he
        go_wp2_with fail
        refine ct.mono ?_
        rintro e w2 ⟨rfl, h2⟩
        have cd := mdone h2
        clear h2
        go_wp2_with fail
        refine cd.mono ?_
        rintro e w2 ⟨rfl, lv2, h2⟩
        clear ct cd c0 c2
        have c0 := h2.c0
        have c3 := h2.c3
        have H2 := hidden h2
        clear h2
        simp only at c0 c3
        by_cases q : aft M.dep = 6
        · have z5 : ((aft M.dep : Int) != 6) = false := by simp; omega
          have HF : Hid (o = (M.l ++ [(5, M.fr, k - M.fr)], 0, 0)) := by
            unfold Hid; rw [HO.out]; unfold finA
            rw [if_neg (by simpa using q)]
          clear HO q
          generalize (aft M.dep : Int) = s2 at *
          go_wp2_with fail
          go_ret3
          rw [HF.out]
          exact ⟨_, rfl, isTk_of H2.out.lrow, H2.out.bel⟩
        · have z5 : ((aft M.dep : Int) != 6) = true := by rw [bne_iff_ne]; omega
          have HF : Hid (o = ([], k, 5)) := by
            unfold Hid; rw [HO.out]; unfold finA
            rw [if_pos (by simpa using q)]
          clear HO q
          generalize (aft M.dep : Int) = s2 at *
          go_wp2_with fail
          go_ret3
          rw [HF.out]
          exact ⟨_, rfl, isTk_nil _, H2.out.bel⟩
      · have ze : ((M.st : Int) == 3) = false := by simp; omega
        rw [if_neg he] at HO
        have c3 := h.c3
        have H2 := hidden h
        clear hv he h ct
        by_cases q : M.st = 6
        · have z5 : ((M.st : Int) != 6) = false := by simp; omega
          have HF : Hid (o = (M.l, 0, 0)) := by
            unfold Hid; rw [HO.out]; unfold finA
            rw [if_neg (by simpa using q)]
          clear HO q
          go_wp2_with fail
          go_ret3
          rw [HF.out]
          exact ⟨_, rfl, isTk_of H2.out.lrow, H2.out.bel⟩
        · have z5 : ((M.st : Int) != 6) = true := by rw [bne_iff_ne]; omega
          have HF : Hid (o = ([], k, 5)) := by
            unfold Hid; rw [HO.out]; unfold finA
            rw [if_pos (by simpa using q)]
          clear HO q
          go_wp2_with fail
          go_ret3
          rw [HF.out]
          exact ⟨_, rfl, isTk_nil _, H2.out.bel⟩
end Go.Proofs.PlatenSexp
