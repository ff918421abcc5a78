/- A reader of JSON in memory; what strings.IndexByte comes to. -/
import Derived.Test.YtfakfgmengcndaaProg
import Derived.Test.YtfakfgmengcndaaKA
import Derived.WalkKit
import Derived.WalkLawsBesides
import Derived.Lib.Bytealg
import Derived.Lib.AppendZeros
import Derived.Deep.RegionHeld3
import Derived.Deep.QuietTactic
import Derived.BigQuiet
import Derived.Tactics
import Derived.Tactics2
import Derived.Defers
import Derived.Recover
import Derived.Laws.Pointers
namespace Go.Proofs.PlatenJson
open Go Go.RowKit
set_option linter.unusedVariables false
set_option maxRecDepth 100000

theorem hidden {p : Prop} (h : p) : Hid p := h

/-! An append to a row of one's own, and where the row is behind it. -/
section
variable {P : Program}
theorem run_append_at (w : World) (base : Nat) (t ty e : TypeId) (i : TypeInfo) (z : Value) (size bytes : Nat) (ht : P.underlying t = some (.slice e)) (hi : P.info? e = some i) (hz : i.zero = some z)
    (hsize : i.size = size) (hby : i.bytes = bytes) (hzs : z.cells.size = size) (hsz : 0 < size)
    (v : Value) (n : Nat) (xs : List Value) (hown : w.ownsRow base e size v n xs)
    (a : Addr) (m c : Nat) (news : List Value) (hl : news.length = m * size) (hnews : ∀ j u, news[j]? = some u → w.cell? (a.add j) = some u) (h1 : ∀ u ∈ news, u.oneCell' = true)
    (h63 : n + m ≤ maxLen) (hbytes : (n + m) * bytes ≤ 140737488355328) (hbase : base ≤ w.heap.size) (hm : 0 < m) :
    ∃ v' w', (Builtin.append_ #[t, t] ty #[v, .slice (some a) m c]).run P w = .ok v' w' ∧ w'.ownsRow base e size v' (n + m) (xs ++ news) ∧ w.grownBy w' v.ownBlock ∧
      (v'.ownBlock = v.ownBlock ∨ v'.ownBlock = some w.heap.size) := by
  obtain ⟨v', w', hr, h2, h3, _⟩ := run_append_own (P := P) w base t ty e i z size bytes ht hi hz hsize hby hzs hsz v n xs hown a m c news hl hnews h1 h63 hbytes hbase
  refine ⟨v', w', hr, h2, h3, ?_⟩
  subst hsize
  subst hby
  have hsmall : n + m ≤ 9223372036854775807 := by simp only [maxLen] at h63; omega
  rcases hown.2 with ⟨rfl, rfl⟩ | ⟨g, cap, cur, rfl, hbg, hg, hnc, hcm, hcs, htake⟩
  · have hr2 := run_append_nil (P := P) w t ty e i z ht hi hz a m c news hl hnews (by omega) (by omega) (by have hb := hbytes; simp only [Nat.zero_add] at hb; omega)
    rw [hr] at hr2
    injection hr2 with e1 e2
    right
    rw [e1]
    rfl
  · by_cases hroom : n + m ≤ cap
    · have hfit : n * i.size + news.length ≤ cur.size := by rw [hl, hcs, ← Nat.add_mul]; exact Nat.mul_le_mul_right _ hroom
      have hr2 := run_append_room (P := P) w t ty e i ht hi g n cap cur hg a m c news hl hnews h1 hroom hfit
      rw [hr] at hr2
      injection hr2 with e1 e2
      left
      rw [e1]
      rfl
    · have holds : ∀ j u, xs[j]? = some u → w.cell? ((⟨g, 0, none⟩ : Addr).add j) = some u := hown.cells (g := g) rfl
      have hr2 := run_append_grow (P := P) w t ty e i z ht hi hz ⟨g, 0, none⟩ n cap xs hown.1 holds a m c news hl hnews (by omega) (by omega) (growslice_fits (by omega) hbytes)
      rw [hr] at hr2
      injection hr2 with e1 e2
      right
      rw [e1]
      rfl
theorem wpList_append_at (w : World) {ops : Array Oper} {rest : List Oper} {o : Oper} {a : Act} {Q : Exit → Act → World → Prop} (hgd : o.guard = none) (s x : Operand) (t : TypeId)
    (ho : o.op = .call { callee := .builtin .append, args := #[s, x], argTypes := #[t, t] })
    (base : Nat) (e : TypeId) (i : TypeInfo) (z : Value) (size bytes : Nat) (ht : P.underlying t = some (.slice e)) (hi : P.info? e = some i) (hz : i.zero = some z)
    (hsize : i.size = size) (hby : i.bytes = bytes) (hzs : z.cells.size = size) (hsz : 0 < size)
    (v : Value) (n : Nat) (xs : List Value) (hs : a.eval s = v) (hown : w.ownsRow base e size v n xs)
    (ad : Addr) (m c : Nat) (news : List Value) (hx : a.eval x = .slice (some ad) m c) (hl : news.length = m * size) (hnews : ∀ j u, news[j]? = some u → w.cell? (ad.add j) = some u) (h1 : ∀ u ∈ news, u.oneCell' = true)
    (h63 : n + m ≤ maxLen) (hbytes : (n + m) * bytes ≤ 140737488355328) (hbase : base ≤ w.heap.size) (hm : 0 < m)
    (h : ∀ v' w', w'.ownsRow base e size v' (n + m) (xs ++ news) → w.grownBy w' v.ownBlock → (v'.ownBlock = v.ownBlock ∨ v'.ownBlock = some w.heap.size) → wpList P ops Q rest (a.put o.dst v') w') : wpList P ops Q (o :: rest) a w := by
  obtain ⟨v', w', hr, h2, h3, h4⟩ := run_append_at (P := P) w base t o.type e i z size bytes ht hi hz hsize hby hzs hsz v n xs hown ad m c news hl hnews h1 h63 hbytes hbase hm
  exact Lib.wpList_append_run w hgd s x t t ho _ _ hs hx _ _ hr (h v' w' h2 h3 h4)
end
theorem row_same {B : Nat} {w w' : World} {e : TypeId} {s n : Nat} {v : Value} {xs : List Value} (h : w.ownsRow B e s v n xs) (hb : ∀ k, v.ownBlock = some k → w'.heap[k]? = w.heap[k]?) : w'.ownsRow B e s v n xs := by
  obtain ⟨h0, h1⟩ := h
  refine ⟨h0, ?_⟩
  rcases h1 with h1 | ⟨g, cap, cur, e1, e2, e3, e4⟩
  · exact Or.inl h1
  · exact Or.inr ⟨g, cap, cur, e1, e2, (hb g (by rw [e1]; rfl)).trans e3, e4⟩
theorem row_ty {B : Nat} {w : World} {e : TypeId} {s n : Nat} {v : Value} {xs : List Value} (h : w.ownsRow B e s v n xs) {k : Nat} (hk : v.ownBlock = some k) : ∃ c, w.heap[k]? = some (.cells c e (0, 0)) := by
  rcases h.2 with ⟨e', _⟩ | ⟨g, cap, cur, e1, e2, e3, e4⟩
  · rw [e'] at hk; cases hk
  · rw [e1] at hk
    simp only [Value.ownBlock, Option.some.injEq] at hk
    subst hk
    exact ⟨_, e3⟩
theorem ty_ne {w : World} {a b : Nat} {x y : Array Value} {s t : TypeId} (ha : w.heap[a]? = some (.cells x s (0, 0))) (hb : w.heap[b]? = some (.cells y t (0, 0))) (hst : s ≠ t) : a ≠ b := by
  rintro rfl
  rw [ha] at hb
  simp only [Option.some.injEq, Obj.cells.injEq] at hb
  exact hst hb.2.1
theorem row_ne {B B' : Nat} {w : World} {s t : TypeId} {m n p q : Nat} {u v : Value} {xs ys : List Value} (hu : w.ownsRow B s m u n xs) (hv : w.ownsRow B' t p v q ys) (hst : s ≠ t) {k : Nat} (hk : u.ownBlock = some k) : v.ownBlock ≠ some k := by
  intro e
  obtain ⟨x, hx⟩ := row_ty hu hk
  obtain ⟨y, hy⟩ := row_ty hv e
  exact ty_ne hx hy hst rfl
theorem row_head {B : Nat} {w : World} {s t : TypeId} {m n k : Nat} {u : Value} {xs : List Value} {x : Array Value} (hu : w.ownsRow B s m u n xs) (hk : w.heap[k]? = some (.cells x t (0, 0))) (hst : s ≠ t) : u.ownBlock ≠ some k := by
  intro e
  obtain ⟨y, hy⟩ := row_ty hu e
  exact ty_ne hy hk hst rfl
theorem grownBy_set (w : World) (b i : Nat) (v : Value) : w.grownBy (w.setCell ⟨b, i, none⟩ v) (some b) :=
  ⟨rfl, rfl, rfl, by simp, fun k _ hk => heap_setCell_other _ _ _ _ (fun e => hk (by simp [e]))⟩
theorem grownBy_alloc (w : World) (o : Obj) : w.grownBy (w.alloc o) none := ⟨rfl, rfl, rfl, by simp, fun k hk _ => Below.heap_alloc w o k hk⟩
theorem info33 : (Try.prog.info? 47).map (fun i => (i.zero, i.size, i.bytes)) = some (some (.agg #[.int .u8 0, .int .i64 0, .int .i64 0]), 3, 24) := by kernel_rfl

/-- Tokens as cells. -/
def rowT (T : List Tk) : List Value := T.flatMap fun t => [.int .u8 (t.1 : Nat), .int .i64 (t.2.1 : Nat), .int .i64 (t.2.2 : Nat)]
theorem rowT_app (a b : List Tk) : rowT (a ++ b) = rowT a ++ rowT b := by simp [rowT]
theorem rowT_one (t : Tk) : rowT [t] = [.int .u8 (t.1 : Nat), .int .i64 (t.2.1 : Nat), .int .i64 (t.2.2 : Nat)] := by simp [rowT]

/-- n bytes of a text, of blocks below B, and not in block R. -/
def Txt (B R n : Nat) (w0 : World) (v : Value) (f : Nat → Nat) : Prop :=
  ∃ a cap, v = .slice a n cap ∧ (0 < n → ∃ b off, a = some ⟨b, off, none⟩ ∧ n ≤ cap ∧ b < B ∧ b ≠ R ∧ ∀ j, j < n → w0.cell? ⟨b, off + j, none⟩ = some (.int .u8 (f j)))

/-- The reader at block R: at byte i, d open, the tokens T, in a row of blocks from B on; all else below B as in w0. -/
structure RS (B R n : Nat) (w0 : World) (v : Value) (f : Nat → Nat) (w : World) (tv : Value) (i d : Nat) (T : List Tk) : Prop where
  hn : n ≤ 100000
  hf : ∀ j, f j < 256
  hR : R < B
  bs : B ≤ w.heap.size
  hi : i ≤ n
  hd : d ≤ 512
  head : w.heap[R]? = some (.cells #[v, .int .i64 (i : Nat), .int .i64 (d : Nat), tv] 70 (0, 0))
  row : w.ownsRow B 47 3 tv T.length (rowT T)
  len : T.length ≤ i
  os : w.os = w0.os
  tape : w.tape = w0.tape
  output : w.output = w0.output
  sz : w0.heap.size ≤ w.heap.size
  block : ∀ k, k < B → k ≠ R → w.heap[k]? = w0.heap[k]?
  txt : Txt B R n w0 v f
def Rd (B R n : Nat) (w0 : World) (v : Value) (f : Nat → Nat) (w : World) (i d : Nat) (T : List Tk) : Prop := ∃ tv, RS B R n w0 v f w tv i d T
/-- Somewhere, behind an error. -/
def Rx (B R n : Nat) (w0 : World) (v : Value) (f : Nat → Nat) (w : World) (i : Nat) : Prop := ∃ d T, Rd B R n w0 v f w i d T

section
variable {B R n : Nat} {w0 : World} {v : Value} {f : Nat → Nat} {w w' : World} {tv : Value} {i d : Nat} {T : List Tk}
theorem Rd.x (h : Rd B R n w0 v f w i d T) : Rx B R n w0 v f w i := ⟨_, _, h⟩
theorem RS.lt (h : RS B R n w0 v f w tv i d T) : R < w.heap.size := (Array.getElem?_eq_some_iff.1 h.head).1
theorem RS.c0 (h : RS B R n w0 v f w tv i d T) : w.cell? ⟨R, 0, none⟩ = some v := by simp [World.cell?, h.head]
theorem RS.c1 (h : RS B R n w0 v f w tv i d T) : w.cell? ⟨R, 1, none⟩ = some (.int .i64 (i : Nat)) := by simp [World.cell?, h.head]
theorem RS.c2 (h : RS B R n w0 v f w tv i d T) : w.cell? ⟨R, 2, none⟩ = some (.int .i64 (d : Nat)) := by simp [World.cell?, h.head]
theorem RS.c3 (h : RS B R n w0 v f w tv i d T) : w.cell? ⟨R, 3, none⟩ = some tv := by simp [World.cell?, h.head]
theorem RS.free (h : RS B R n w0 v f w tv i d T) (j : Nat) : w.frozen? ⟨R, j, none⟩ = false := frozen_of_row w R j _ 70 h.head
/-- The byte at hand. -/
theorem RS.byte (h : RS B R n w0 v f w tv i d T) {j : Nat} (hj : j < n) : ∃ b off cap, v = .slice (some ⟨b, off, none⟩) n cap ∧ n ≤ cap ∧ w.cell? ⟨b, off + j, none⟩ = some (.int .u8 (f j)) := by
  obtain ⟨a, cap, rfl, ht⟩ := h.txt
  obtain ⟨b, off, rfl, hc, hb, hbR, hcell⟩ := ht (by omega)
  exact ⟨b, off, cap, rfl, hc, (World.cell?_of_block (w := w0) (h.block b hb hbR)).trans (hcell j hj)⟩
theorem RS.val (h : RS B R n w0 v f w tv i d T) : ∃ a cap, v = .slice a n cap := by
  obtain ⟨a, cap, rfl, _⟩ := h.txt
  exact ⟨_, _, rfl⟩
theorem RS.grown (h : RS B R n w0 v f w tv i d T) (hg : w.grownBy w' none) : RS B R n w0 v f w' tv i d T where
  hn := h.hn
  hf := h.hf
  hR := h.hR
  bs := Nat.le_trans h.bs hg.size
  hi := h.hi
  hd := h.hd
  head := (hg.block R h.lt (by simp)).trans h.head
  row := row_same h.row (fun k hk => hg.block k (h.row.lt k hk).2 (by simp))
  len := h.len
  os := hg.os.trans h.os
  tape := hg.tape.trans h.tape
  output := hg.output.trans h.output
  sz := Nat.le_trans h.sz hg.size
  block := fun k hk hR => (hg.block k (Nat.lt_of_lt_of_le hk h.bs) (by simp)).trans (h.block k hk hR)
  txt := h.txt
theorem grown_dN (w : World) (q : Nat) : w.grownBy (w.drewN q) none := ⟨rfl, rfl, rfl, Nat.le_refl _, fun _ _ _ => rfl⟩
theorem grown_d (w : World) : w.grownBy w.drew none := ⟨rfl, rfl, rfl, Nat.le_refl _, fun _ _ _ => rfl⟩
theorem RS.drewN (h : RS B R n w0 v f w tv i d T) (q : Nat) : RS B R n w0 v f (w.drewN q) tv i d T := h.grown (grown_dN w q)
theorem RS.drew (h : RS B R n w0 v f w tv i d T) : RS B R n w0 v f w.drew tv i d T := h.grown (grown_d w)
theorem RS.own (h : RS B R n w0 v f w tv i d T) : tv.ownBlock ≠ some R := row_head h.row h.head (by decide)
/-- The reader's own cells have changed. -/
theorem RS.store (h : RS B R n w0 v f w tv i d T) {c : Nat} {u : Value} {i' d' : Nat} (hi : i' ≤ n) (hii : i ≤ i') (hd : d' ≤ 512) (hc : #[v, .int .i64 (i : Nat), .int .i64 (d : Nat), tv].set! c u = #[v, .int .i64 (i' : Nat), .int .i64 (d' : Nat), tv]) :
    RS B R n w0 v f (w.setCell ⟨R, c, none⟩ u) tv i' d' T where
  hn := h.hn
  hf := h.hf
  hR := h.hR
  bs := by simpa using h.bs
  hi := hi
  hd := hd
  head := by rw [← hc]; exact heap_setCell_same w R c _ 70 u h.head
  row := row_same h.row (fun k hk => heap_setCell_other _ _ _ _ (fun e => h.own (by rw [hk, e])))
  len := Nat.le_trans h.len hii
  os := h.os
  tape := h.tape
  output := h.output
  sz := by simpa using h.sz
  block := fun k hk hR => (heap_setCell_other _ _ _ _ (fun e => hR e)).trans (h.block k hk hR)
  txt := h.txt
theorem RS.at' (h : RS B R n w0 v f w tv i d T) {i' : Nat} (hi : i' ≤ n) (hii : i ≤ i') : RS B R n w0 v f (w.setCell ⟨R, 1, none⟩ (.int .i64 (i' : Nat))) tv i' d T := h.store hi hii h.hd (by simp)
theorem RS.deep (h : RS B R n w0 v f w tv i d T) {d' : Nat} (hd : d' ≤ 512) : RS B R n w0 v f (w.setCell ⟨R, 2, none⟩ (.int .i64 (d' : Nat))) tv i d' T := h.store h.hi (Nat.le_refl _) hd (by simp)
/-- A token more. -/
theorem RS.push (h : RS B R n w0 v f w tv i d T) {w3 : World} {v' : Value} {t : Tk} (hl : T.length < i) (hr : w3.ownsRow B 47 3 v' (T.length + 1) (rowT T ++ rowT [t])) (hg : w.grownBy w3 tv.ownBlock) :
    RS B R n w0 v f (w3.setCell ⟨R, 3, none⟩ v') v' i d (T ++ [t]) where
  hn := h.hn
  hf := h.hf
  hR := h.hR
  bs := by simpa using Nat.le_trans h.bs hg.size
  hi := h.hi
  hd := h.hd
  head := by
    have hh3 := (hg.block R h.lt (fun e => h.own e.symm)).trans h.head
    have := heap_setCell_same w3 R 3 _ 70 v' hh3
    simpa using this
  row := by
    have hh3 := (hg.block R h.lt (fun e => h.own e.symm)).trans h.head
    have n2 := row_head hr hh3 (by decide)
    rw [List.length_append, List.length_singleton, rowT_app]
    exact row_same hr (fun k hk => heap_setCell_other _ _ _ _ (fun e => n2 (by rw [hk, e])))
  len := by simp; omega
  os := hg.os.trans h.os
  tape := hg.tape.trans h.tape
  output := hg.output.trans h.output
  sz := by simpa using Nat.le_trans h.sz hg.size
  block := fun k hk hR => ((heap_setCell_other _ _ _ _ (fun e => hR e)).trans (hg.block k (Nat.lt_of_lt_of_le hk h.bs) (fun e => by have := (h.row.lt k e.symm).1; omega))).trans (h.block k hk hR)
  txt := h.txt
end

/-! strings.IndexByte. -/
set_option maxHeartbeats 1000000 in
theorem idx_lite (s : ByteArray) (c : Int) (w : World) :
    Calls Try.prog 96 #[.string s, .int .u8 c] w fun e w' => e = .returned (.int .i64 (Lib.indexByte s.data.toList c.toNat.toUInt8)) ∧ w' = w := by
  go_enter Try.func96, Try.ntmps96
  go_wp2
  rw [run_callFunc_extern Try.func100 (by kernel_rfl) (by kernel_rfl) (by kernel_rfl) (e := Extern.BytealgIndexByte.indexByte) (by kernel_rfl), Lib.run_indexByteString]
  simp only [Result.andThen]
  rw [Oper.upon_value]
  go_wp2
  go_ret
  exact ⟨rfl, rfl⟩
theorem idx_any (s : ByteArray) (c : Int) (w : World) :
    Calls Try.prog 78 #[.string s, .int .u8 c] w fun e w' => e = .returned (.int .i64 (Lib.indexByte s.data.toList c.toNat.toUInt8)) ∧ w' = w := by
  go_enter Try.func78, Try.ntmps78
  go_wp2_with fail
  refine (idx_lite _ _ _).mono ?_
  rintro e w' ⟨rfl, rfl⟩
  go_wp2
  go_ret
  exact ⟨rfl, rfl⟩
/-- Is a byte one of some? -/
def has (s : ByteArray) (c : Nat) : Bool := decide (0 ≤ Lib.indexByte s.data.toList ((c : Int).toNat.toUInt8))
theorem has_blank : ∀ c, c < 256 → has ⟨#[32, 9, 10, 13]⟩ c = isB c := by decide +kernel
theorem has_dec : ∀ c, c < 256 → has ⟨#[48, 49, 50, 51, 52, 53, 54, 55, 56, 57]⟩ c = isD c := by decide +kernel
theorem has_hex : ∀ c, c < 256 → has ⟨#[48, 49, 50, 51, 52, 53, 54, 55, 56, 57, 97, 98, 99, 100, 101, 102, 65, 66, 67, 68, 69, 70]⟩ c = isH c := by decide +kernel
theorem has_esc : ∀ c, c < 256 → has ⟨#[34, 92, 47, 98, 102, 110, 114, 116]⟩ c = isE c := by decide +kernel
theorem idx_one (b x : UInt8) : 0 ≤ Lib.indexByte [b] x ↔ b = x := by
  simp only [Lib.indexByte]
  by_cases h : b = x
  · simp [h]
  · simp [h]
theorem idx_two (b1 b2 x : UInt8) : 0 ≤ Lib.indexByte [b1, b2] x ↔ b1 = x ∨ b2 = x := by
  simp only [Lib.indexByte]
  by_cases h1 : b1 = x
  · simp [h1]
  · by_cases h2 : b2 = x
    · simp [h1, h2]
    · simp [h1, h2]
theorem u8_is {c : Nat} (hc : c < 256) (b : UInt8) : b = (c : Int).toNat.toUInt8 ↔ c = b.toNat := by
  have e : ((c : Int).toNat.toUInt8).toNat = c := by simp; omega
  rw [← UInt8.toNat_inj, e]; exact eq_comm
theorem has_one (b : UInt8) (c : Nat) (hc : c < 256) : has ⟨#[b]⟩ c = decide (c = b.toNat) := by
  unfold has
  exact decide_eq_decide.2 ((idx_one b _).trans (u8_is hc b))
theorem has_two (b1 b2 : UInt8) (c : Nat) (hc : c < 256) : has ⟨#[b1, b2]⟩ c = (decide (c = b1.toNat) || decide (c = b2.toNat)) := by
  unfold has
  rw [← Bool.decide_or]
  exact decide_eq_decide.2 ((idx_two b1 b2 _).trans (or_congr (u8_is hc b1) (u8_is hc b2)))
end Go.Proofs.PlatenJson

/- What sees, take, need, ahead of the reader come to. -/
namespace Go.Proofs.PlatenJson
open Go Go.RowKit
set_option linter.unusedVariables false
set_option maxRecDepth 100000
variable {B R n : Nat} {w0 : World} {v : Value} {f : Nat → Nat} {w : World} {i d : Nat} {T : List Tk}

/-- Is the next byte one of some? -/
def see (f : Nat → Nat) (n i : Nat) (s : ByteArray) : Bool := decide (i < n) && has s (f i)

set_option maxHeartbeats 1000000 in
theorem sees_any (h : Rd B R n w0 v f w i d T) (s : ByteArray) :
    Calls Try.prog 84 #[.pointer (some ⟨R, 0, none⟩), .string s] w fun e w' => e = .returned (.bool (see f n i s)) ∧ Rd B R n w0 v f w' i d T := by
  obtain ⟨tv, h⟩ := h
  have c0 := h.c0
  have c1 := h.c1
  have H := hidden h
  by_cases hi : i < n
  · obtain ⟨b, off, cap, rfl, hcap, g⟩ := h.byte hi
    have hlz : (i : Int) < (n : Int) := by omega
    have Hs : Hid (see f n i s = decide (0 ≤ Lib.indexByte s.data.toList ((f i : Nat) : Int).toNat.toUInt8)) := by
      unfold see has Hid; simp [hi]
    clear h
    go_enter Try.func84, Try.ntmps84
    go_wp2_with fail
    go_quiet ((go_at_call 78; exact Calls.quiet_of_same (idx_any _ _ _)))
    go_wp2
    go_ret
    exact ⟨by rw [Hs.out]; simp, _, H.out.drewN _⟩
  · obtain ⟨a, cap, rfl⟩ := h.val
    have hlz : ¬ ((i : Int) < (n : Int)) := by omega
    have Hs : Hid (see f n i s = false) := by
      unfold see Hid; simp [hi]
    clear h
    go_enter Try.func84, Try.ntmps84
    go_wp2_with fail
    go_quiet (fail)
    go_wp2
    go_ret
    exact ⟨by rw [Hs.out]; simp, _, H.out.drewN _⟩

set_option maxHeartbeats 1000000 in
theorem take_yes (h : Rd B R n w0 v f w i d T) (s : ByteArray) (hs : see f n i s = true) :
    Calls Try.prog 58 #[.pointer (some ⟨R, 0, none⟩), .string s] w fun e w' => e = .returned (.bool true) ∧ Rd B R n w0 v f w' (i + 1) d T := by
  have cs := sees_any h s
  rw [hs] at cs
  have hi : i < n := by unfold see at hs; simp at hs; exact hs.1
  have Hi := hidden hi
  have hn := h.choose_spec.hn
  have hb : i ≤ 100000 := by omega
  clear h hs hn hi
  go_enter Try.func58, Try.ntmps58
  go_wp2_with fail
  refine cs.mono ?_
  rintro e w' ⟨rfl, tv, h⟩
  have c1 := h.c1
  have fr := h.free 1
  have H := hidden h
  clear h cs
  go_wp2
  go_ret
  refine ⟨rfl, tv, ?_⟩
  have := H.out.at' (i' := i + 1) Hi.out (Nat.le_succ _)
  simpa using this
set_option maxHeartbeats 1000000 in
theorem take_no (h : Rd B R n w0 v f w i d T) (s : ByteArray) (hs : see f n i s = false) :
    Calls Try.prog 58 #[.pointer (some ⟨R, 0, none⟩), .string s] w fun e w' => e = .returned (.bool false) ∧ Rd B R n w0 v f w' i d T := by
  have cs := sees_any h s
  rw [hs] at cs
  clear h hs
  go_enter Try.func58, Try.ntmps58
  go_wp2_with fail
  refine cs.mono ?_
  rintro e w' ⟨rfl, h⟩
  have H := hidden h
  clear h cs
  go_wp2
  go_ret
  exact ⟨rfl, H.out⟩
/-- The panic of an error. -/
abbrev Boom (x : Int) : Ending := .panicked [{ v := .iface 25 (.int .i64 x), recovered := false }]
set_option maxHeartbeats 1000000 in
theorem need_yes (h : Rd B R n w0 v f w i d T) (s : ByteArray) (hs : see f n i s = true) :
    Calls Try.prog 86 #[.pointer (some ⟨R, 0, none⟩), .string s] w fun e w' => e = .returned (.tuple #[]) ∧ Rd B R n w0 v f w' (i + 1) d T := by
  have cs := take_yes h s hs
  clear h hs
  go_enter Try.func86, Try.ntmps86
  go_wp2_with fail
  refine cs.mono ?_
  rintro e w' ⟨rfl, h⟩
  have H := hidden h
  clear h cs
  go_wp2
  go_end0
  exact ⟨rfl, H.out⟩
set_option maxHeartbeats 1000000 in
theorem need_no (h : Rd B R n w0 v f w i d T) (s : ByteArray) (hs : see f n i s = false) :
    Calls Try.prog 86 #[.pointer (some ⟨R, 0, none⟩), .string s] w fun e w' => e = Boom 5 ∧ Rd B R n w0 v f w' i d T := by
  have cs := take_no h s hs
  clear h hs
  go_enter Try.func86, Try.ntmps86
  go_wp2_with fail
  refine cs.mono ?_
  rintro e w' ⟨rfl, h⟩
  have H := hidden h
  clear h cs
  go_wp2
  exact ⟨rfl, rfl, H.out⟩
/-- The next byte, or 0. -/
def ahd (f : Nat → Nat) (n i : Nat) : Nat := if i = n then 0 else f i
set_option maxHeartbeats 1000000 in
theorem ahead_any (h : Rd B R n w0 v f w i d T) :
    Calls Try.prog 59 #[.pointer (some ⟨R, 0, none⟩)] w fun e w' => e = .returned (.int .u8 (ahd f n i : Nat)) ∧ Rd B R n w0 v f w' i d T := by
  obtain ⟨tv, h⟩ := h
  have c0 := h.c0
  have c1 := h.c1
  have H := hidden h
  by_cases hi : i < n
  · obtain ⟨b, off, cap, rfl, hcap, g⟩ := h.byte hi
    have hlz : ((i : Int) == (n : Int)) = false := by simp; omega
    have hlt : (i : Int) < (n : Int) := by omega
    have Hs : Hid (ahd f n i = f i) := by unfold ahd Hid; rw [if_neg (by omega)]
    clear h
    go_enter Try.func59, Try.ntmps59
    go_wp2_with fail
    go_quiet (fail)
    go_wp2_with fail
    go_quiet (fail)
    go_wp2
    go_ret
    exact ⟨by rw [Hs.out]; simp, _, (H.out.drewN _).drewN _⟩
  · obtain ⟨a, cap, rfl⟩ := h.val
    have hlz : ((i : Int) == (n : Int)) = true := by have := h.hi; simp; omega
    have Hs : Hid (ahd f n i = 0) := by have := h.hi; unfold ahd Hid; rw [if_pos (by omega)]
    clear h
    go_enter Try.func59, Try.ntmps59
    go_wp2_with fail
    go_quiet (fail)
    go_wp2
    go_ret
    exact ⟨by rw [Hs.out]; simp, _, H.out.drewN _⟩
end Go.Proofs.PlatenJson

/- What blanks, token, sign, digits of the reader come to. -/
namespace Go.Proofs.PlatenJson
open Go Go.RowKit
set_option linter.unusedVariables false
set_option maxRecDepth 100000
variable {B R n : Nat} {w0 : World} {v : Value} {f : Nat → Nat} {w : World} {i d : Nat} {T : List Tk}

/-- Where the reader stands, as the world has it. -/
def atOf (R : Nat) (w : World) : Nat := (intOf ((w.cell? ⟨R, 1, none⟩).getD undef)).toNat
theorem Rd.at (h : Rd B R n w0 v f w i d T) : atOf R w = i := by
  obtain ⟨tv, h⟩ := h
  simp [atOf, h.c1, intOf]
theorem Rd.hf (h : Rd B R n w0 v f w i d T) : ∀ j, f j < 256 := h.choose_spec.hf
theorem Rd.hi (h : Rd B R n w0 v f w i d T) : i ≤ n := h.choose_spec.hi
theorem Rd.hn (h : Rd B R n w0 v f w i d T) : n ≤ 100000 := h.choose_spec.hn
theorem Rd.len (h : Rd B R n w0 v f w i d T) : T.length ≤ i := h.choose_spec.len
theorem Rd.drewN (h : Rd B R n w0 v f w i d T) (q : Nat) : Rd B R n w0 v f (w.drewN q) i d T := h.imp fun tv h => h.drewN q
theorem see_lt {s : ByteArray} (h : see f n i s = true) : i < n := by unfold see at h; simp at h; exact h.1
theorem see_b (h : Rd B R n w0 v f w i d T) : see f n i ⟨#[32, 9, 10, 13]⟩ = (decide (i < n) && isB (f i)) := by unfold see; rw [has_blank _ (h.hf i)]
theorem see_d (h : Rd B R n w0 v f w i d T) : see f n i ⟨#[48, 49, 50, 51, 52, 53, 54, 55, 56, 57]⟩ = (decide (i < n) && isD (f i)) := by unfold see; rw [has_dec _ (h.hf i)]
theorem see_h (h : Rd B R n w0 v f w i d T) : see f n i ⟨#[48, 49, 50, 51, 52, 53, 54, 55, 56, 57, 97, 98, 99, 100, 101, 102, 65, 66, 67, 68, 69, 70]⟩ = (decide (i < n) && isH (f i)) := by unfold see; rw [has_hex _ (h.hf i)]
theorem see_e (h : Rd B R n w0 v f w i d T) : see f n i ⟨#[34, 92, 47, 98, 102, 110, 114, 116]⟩ = (decide (i < n) && isE (f i)) := by unfold see; rw [has_esc _ (h.hf i)]
theorem see_1 (h : Rd B R n w0 v f w i d T) (b : UInt8) : see f n i ⟨#[b]⟩ = (decide (i < n) && decide (f i = b.toNat)) := by unfold see; rw [has_one _ _ (h.hf i)]
theorem see_2 (h : Rd B R n w0 v f w i d T) (b c : UInt8) : see f n i ⟨#[b, c]⟩ = (decide (i < n) && (decide (f i = b.toNat) || decide (f i = c.toNat))) := by unfold see; rw [has_two _ _ _ (h.hf i)]

theorem take_dst {P : Program} {md : Region.Mode} {ops : Array Oper} {Q : Exit → Act → World → Prop} {S : World → Prop} (i : Nat) (d : Option Nat) {oi : Oper} {v : Value} {fuel : Nat} {listed : Array Bool} {a : Act} {w : World} (hi : ops[i]? = some oi) (hd : oi.dst = d)
    (hs : Region.noSelect ops = true) (hf : Region.free md ops listed i = true) (hr : (Region.ready md ops listed).contains i = true)
    (hQ : ∀ c a w, Q (.panic c) (a.put d v) w → Q (.panic c) a w) (hy : YieldsIf P ops S oi v a) (hS : S w)
    (h : wpAnyH P md ops Q S fuel (listed.setIfInBounds i true) (a.put d v) w) : wpAnyH P md ops Q S (fuel + 1) listed a w := by
  subst hd
  exact wpAnyH_take hi hs hf hr hQ hy hS h
theorem step_append_wh {P : Program} {ops : Array Oper} {o : Oper} {a : Act} {w : World} {K : Act → World → Prop} {Q : Exit → Act → World → Prop} {E : Prop} (hgd : o.guard = none) (s x : Operand) (t : TypeId)
    (hop : o.op = .call { callee := .builtin .append, args := #[s, x], argTypes := #[t, t] })
    (base : Nat) (e : TypeId) (i : TypeInfo) (z : Value) (size bytes : Nat) (ht : P.underlying t = some (.slice e)) (hi : P.info? e = some i) (hz : i.zero = some z)
    (hsize : i.size = size) (hby : i.bytes = bytes) (hzs : z.cells.size = size) (hsz : 0 < size)
    (v : Value) (n : Nat) (xs : List Value) (hs : a.eval s = v) (hown : w.ownsRow base e size v n xs)
    (ad : Addr) (m c : Nat) (news : List Value) (hx : a.eval x = .slice (some ad) m c) (hl : news.length = m * size) (hnews : ∀ j u, news[j]? = some u → w.cell? (ad.add j) = some u) (h1 : ∀ u ∈ news, u.oneCell' = true)
    (h63 : n + m ≤ maxLen) (hbytes : (n + m) * bytes ≤ 140737488355328) (hbase : base ≤ w.heap.size) (hm : 0 < m)
    (hK : ∀ v' w', Hid (w'.ownsRow base e size v' (n + m) (xs ++ news)) → Hid (w.grownBy w' v.ownBlock) → Hid (v'.ownBlock = v.ownBlock ∨ v'.ownBlock = some w.heap.size) → K (a.put o.dst v') w') :
    if Region.wanted o (yielded ops a.tmps) = true then Oper.wp P o a w K Q else E := by
  have hw : Region.wanted o (yielded ops a.tmps) = true := by simp [Region.wanted, hgd]
  rw [if_pos hw]
  obtain ⟨v', w', hrun, h2, h3, h4⟩ := run_append_at (P := P) w base t o.type e i z size bytes ht hi hz hsize hby hzs hsz v n xs hown ad m c news hl hnews h1 h63 hbytes hbase hm
  unfold Oper.wp
  simp [execOp, hop, resolve, invoke, builtin, hs, hx, hrun, Result.andThen]
  exact hK _ _ h2 h3 h4
theorem cells3e (X : World) (t : TypeId) (a b c : Value) : ∀ j u, [a, b, c][j]? = some u → (X.alloc (.cells #[a, b, c] t)).cell? ((⟨X.heap.size, 0, none⟩ : Addr).add j) = some u := by
  intro j u hj
  match j, hj with
  | 0, hj => simp at hj; subst hj; simp [Addr.add]
  | 1, hj => simp at hj; subst hj; simp [Addr.add]
  | 2, hj => simp at hj; subst hj; simp [Addr.add]
  | j + 3, hj => simp at hj
theorem row_slice {B : Nat} {w : World} {e : TypeId} {s n : Nat} {v : Value} {xs : List Value} (h : w.ownsRow B e s v n xs) : ∃ va vc, v = .slice va n vc := by
  rcases h.2 with ⟨e, h0⟩ | ⟨g, cap, cur, e, _⟩
  · exact ⟨none, 0, by rw [e, h0]⟩
  · exact ⟨_, _, e⟩

def BlP (B R n : Nat) (w0 : World) (v : Value) (f : Nat → Nat) (i d : Nat) (T : List Tk) (w : World) : Prop := ∃ j, Skp f n i j ∧ Rd B R n w0 v f w j d T
set_option maxHeartbeats 1000000 in
theorem blanks_any (h : Rd B R n w0 v f w i d T) :
    Calls Try.prog 37 #[.pointer (some ⟨R, 0, none⟩)] w fun e w' => e = .returned (.tuple #[]) ∧ BlP B R n w0 v f i d T w' := by
  have H := hidden h
  clear h
  go_enter Try.func37, Try.ntmps37
  go_wp2_with fail
  go_loopw [] (fun wr => ∃ j, i ≤ j ∧ (∀ k, i ≤ k → k < j → isB (f k) = true) ∧ Rd B R n w0 v f wr j d T) (fun wr => n - atOf R wr)
  case atStart => exact ⟨i, Nat.le_refl _, fun k h1 h2 => by omega, H.out⟩
  case round =>
    obtain ⟨j, hij, hall, hr⟩ := hrel
    have Hall := hidden hall
    have Hat := hidden hr.at
    cases hs : see f n j ⟨#[32, 9, 10, 13]⟩ with
    | true =>
      have ct := take_yes hr _ hs
      rw [see_b hr] at hs
      simp at hs
      have Hs := hidden hs
      clear hs hall hr
      go_wp2_with fail
      refine ct.mono ?_
      rintro e w1 ⟨rfl, h1⟩
      have H1 := hidden h1
      clear h1 ct
      go_wp2
      go_roundw
      case rel =>
        refine ⟨j + 1, by omega, fun k h1 h2 => ?_, H1.out⟩
        rcases Nat.lt_or_ge k j with q | q
        · exact Hall.out k h1 q
        · obtain rfl : k = j := by omega
          exact Hs.out.2
      case measure => rw [H1.out.at, Hat.out]; have := Hs.out.1; omega
    | false =>
      have ct := take_no hr _ hs
      rw [see_b hr] at hs
      have Hs : Hid (j < n → isB (f j) = false) := fun q => by simpa [q] using hs
      have Hn := hidden hr.hi
      clear hs hall hr
      go_wp2_with fail
      refine ct.mono ?_
      rintro e w1 ⟨rfl, h1⟩
      have H1 := hidden h1
      clear h1 ct
      go_wp2
      go_end0
      exact ⟨rfl, j, ⟨hij, Hn.out, Hall.out, Hs.out⟩, H1.out⟩
set_option maxHeartbeats 2000000 in
theorem token_any (h : Rd B R n w0 v f w i d T) (k s : Nat) (hk : k < 256) (hs : s ≤ i) (hT : T.length < i) :
    Calls Try.prog 88 #[.pointer (some ⟨R, 0, none⟩), .int .u8 (k : Nat), .int .i64 (s : Nat)] w fun e w' => e = .returned (.tuple #[]) ∧ BlP B R n w0 v f i d (T ++ [(k, s, i - s)]) w' := by
  obtain ⟨i0, hi, hz0, hz1, hz2⟩ := info_parts info33
  obtain ⟨tv, h⟩ := h
  have hn := h.hn
  have hin := h.hi
  have hib : i ≤ 100000 := by omega
  have H := hidden h.drew
  clear h
  go_enter Try.func88, Try.ntmps88
  go_wp2_with fail
  have wr1 : IntKind.i64.wrap ((i : Int) - (s : Int)) = (i : Int) - (s : Int) := IntWalk.i64_in _ (by omega)
  refine wp_region_held_drew (S := (fun u => u.cell? ⟨R, 1, none⟩ = some (.int .i64 (i : Nat)))) (by kernel_rfl) H.out.c1 (fun hHeld => ?_)
  generalize w.drew = w1 at *
  have C1 : Hid (w1.cell? ⟨R, 1, none⟩ = some (.int .i64 (i : Nat))) := H.out.c1
  refine take_dst 0 (some 6) rfl rfl (by kernel_rfl) (by kernel_rfl) (by kernel_rfl) (fun _ _ _ h => h) (v := ?_) (Or.inl ⟨by rfl, ?_⟩) (by assumption) ?_
  rotate_left
  · (intro w hSw; (try dsimp only at hSw); go_simp; try with_reducible rfl)
  simp only [Act.put, List.setIfInBounds_toArray, List.set_cons_zero, List.set_cons_succ]
  refine take_dst 1 (some 7) rfl rfl (by kernel_rfl) (by kernel_rfl) (by kernel_rfl) (fun _ _ _ h => h) (v := ?_) (Or.inl ⟨by rfl, ?_⟩) (by assumption) ?_
  rotate_left
  · (intro w hSw; (try dsimp only at hSw); go_simp; try with_reducible rfl)
  simp only [Act.put, List.setIfInBounds_toArray, List.set_cons_zero, List.set_cons_succ]
  refine take_dst 2 (some 8) rfl rfl (by kernel_rfl) (by kernel_rfl) (by kernel_rfl) (fun _ _ _ h => h) (v := ?_) (Or.inl ⟨by rfl, ?_⟩) (by assumption) ?_
  rotate_left
  · (intro w hSw; (try dsimp only at hSw); go_simp; try with_reducible rfl)
  simp only [Act.put, List.setIfInBounds_toArray, List.set_cons_zero, List.set_cons_succ]
  refine take_dst 3 (some 9) rfl rfl (by kernel_rfl) (by kernel_rfl) (by kernel_rfl) (fun _ _ _ h => h) (v := ?_) (Or.inl ⟨by rfl, ?_⟩) (by assumption) ?_
  rotate_left
  · (intro w hSw; (try dsimp only at hSw); go_simp; try with_reducible rfl)
  simp only [Act.put, List.setIfInBounds_toArray, List.set_cons_zero, List.set_cons_succ]
  refine take_dst 5 (some 11) rfl rfl (by kernel_rfl) (by kernel_rfl) (by kernel_rfl) (fun _ _ _ h => h) (v := ?_) (Or.inl ⟨by rfl, ?_⟩) (by assumption) ?_
  rotate_left
  · (intro w hSw; (try dsimp only at hSw); go_simp; try with_reducible rfl)
  simp only [Act.put, List.setIfInBounds_toArray, List.set_cons_zero, List.set_cons_succ]
  refine take_dst 6 (some 12) rfl rfl (by kernel_rfl) (by kernel_rfl) (by kernel_rfl) (fun _ _ _ h => h) (v := ?_) (Or.inl ⟨by rfl, ?_⟩) (by assumption) ?_
  rotate_left
  · (intro w hSw; (try dsimp only at hSw); go_simp; try with_reducible rfl)
  simp only [Act.put, List.setIfInBounds_toArray, List.set_cons_zero, List.set_cons_succ]
  refine take_dst 7 (some 13) rfl rfl (by kernel_rfl) (by kernel_rfl) (by kernel_rfl) (fun _ _ _ h => h) (v := ?_) (Or.inl ⟨by rfl, ?_⟩) (by assumption) ?_
  rotate_left
  · (intro w hSw; (try dsimp only at hSw); go_simp; try with_reducible rfl)
  simp only [Act.put, List.setIfInBounds_toArray, List.set_cons_zero, List.set_cons_succ]
  refine take_dst 8 (some 14) rfl rfl (by kernel_rfl) (by kernel_rfl) (by kernel_rfl) (fun _ _ _ h => h) (v := ?_) (Or.inl ⟨by rfl, ?_⟩) (by assumption) ?_
  rotate_left
  · (intro w hSw; (try dsimp only at hSw); go_simp; try with_reducible rfl)
  simp only [Act.put, List.setIfInBounds_toArray, List.set_cons_zero, List.set_cons_succ]
  refine take_dst 9 (some 15) rfl rfl (by kernel_rfl) (by kernel_rfl) (by kernel_rfl) (fun _ _ _ h => h) (v := ?_) (Or.inl ⟨by rfl, ?_⟩) (by assumption) ?_
  rotate_left
  · (intro w hSw; (try dsimp only at hSw); go_simp; try with_reducible rfl)
  simp only [Act.put, List.setIfInBounds_toArray, List.set_cons_zero, List.set_cons_succ]
  refine take_dst 10 (some 16) rfl rfl (by kernel_rfl) (by kernel_rfl) (by kernel_rfl) (fun _ _ _ h => h) (v := ?_) (Or.inl ⟨by rfl, ?_⟩) (by assumption) ?_
  rotate_left
  · (intro w hSw; (try dsimp only at hSw); go_simp; try with_reducible rfl)
  simp only [Act.put, List.setIfInBounds_toArray, List.set_cons_zero, List.set_cons_succ]
  refine take_dst 11 (some 17) rfl rfl (by kernel_rfl) (by kernel_rfl) (by kernel_rfl) (fun _ _ _ h => h) (v := ?_) (Or.inl ⟨by rfl, ?_⟩) (by assumption) ?_
  rotate_left
  · (intro w hSw; (try dsimp only at hSw); go_simp; try with_reducible rfl)
  simp only [Act.put, List.setIfInBounds_toArray, List.set_cons_zero, List.set_cons_succ]
  refine take_dst 12 (some 18) rfl rfl (by kernel_rfl) (by kernel_rfl) (by kernel_rfl) (fun _ _ _ h => h) (v := ?_) (Or.inl ⟨by rfl, ?_⟩) (by assumption) ?_
  rotate_left
  · (intro w hSw; (try dsimp only at hSw); go_simp; try with_reducible rfl)
  simp only [Act.put, List.setIfInBounds_toArray, List.set_cons_zero, List.set_cons_succ]
  refine take_dst 13 (some 19) rfl rfl (by kernel_rfl) (by kernel_rfl) (by kernel_rfl) (fun _ _ _ h => h) (v := ?_) (Or.inl ⟨by rfl, ?_⟩) (by assumption) ?_
  rotate_left
  · (intro w hSw; (try dsimp only at hSw); go_simp; try with_reducible rfl)
  simp only [Act.put, List.setIfInBounds_toArray, List.set_cons_zero, List.set_cons_succ]
  have H1 := hidden (H.out.grown (grownBy_alloc w1 (.cells #[.int .u8 (k : Nat), .int .i64 (s : Nat), .int .i64 ((i : Int) - (s : Int))] 47)))
  have c3 := H.out.c3
  refine wpAnyH_ready (rs := [4, 14]) (by kernel_rfl) (by simp) ?_
  refine AllReadyH.cons rfl (fun K hK => ?_) (AllReadyH.cons rfl (fun K hK => ?_) AllReadyH.nil)
  · go_simp
    refine hK.out _ _ C1.out (fun hHeld1 => ?_)
    clear hK K hHeld1
    refine wpAnyH_ready (rs := [14]) (by kernel_rfl) (by simp) ?_
    refine AllReadyH.cons rfl (fun K hK => ?_) AllReadyH.nil
    go_simp
    refine hK.out _ _ H1.out.c1 (fun hHeld2 => ?_)
    clear hK K hHeld2
    generalize hW : w1 = W at *
    refine wpAnyH_ready (rs := [15]) (by kernel_rfl) (by simp) ?_
    refine AllReadyH.cons rfl (fun K hK => ?_) AllReadyH.nil
    refine step_append_wh rfl (.tmp 10) (.tmp 20) 24 rfl B 47 i0 (.agg #[.int .u8 0, .int .i64 0, .int .i64 0]) 3 24 Try.underlying24 hi hz0 hz1 hz2 rfl (by decide) tv T.length (rowT T) (by simp [Act.eval]) H1.out.row ⟨W.heap.size, 0, none⟩ 1 1 [.int .u8 (k : Nat), .int .i64 (s : Nat), .int .i64 ((i : Int) - (s : Int))] (by simp [Act.eval]) rfl (cells3e _ _ _ _ _) (by intro u hu; simp at hu; rcases hu with rfl | rfl | rfl <;> rfl) (by unfold maxLen; omega) (by omega) H1.out.bs (by decide) ?_
    intro v' w3 hr3 hg3 _
    have HP : Hid (RS B R n w0 v f (w3.setCell ⟨R, 3, none⟩ v') v' i d (T ++ [(k, s, i - s)])) := H1.out.push hT (by rw [rowT_one, show (((i - s : Nat) : Nat) : Int) = (i : Int) - (s : Int) by omega]; exact hr3.out) hg3.out
    have hd3 : w3.heap[R]? = some (.cells #[v, .int .i64 (i : Nat), .int .i64 (d : Nat), tv] 70 (0, 0)) := (hg3.out.block R H1.out.lt (fun e => H1.out.own e.symm)).trans H1.out.head
    have e1 : w3.cell? ⟨R, 1, none⟩ = some (.int .i64 (i : Nat)) := by simp only [World.cell?, hd3]; rfl
    have e3 : w3.cell? ⟨R, 3, none⟩ = some tv := by simp only [World.cell?, hd3]; rfl
    have f3 : w3.frozen? ⟨R, 3, none⟩ = false := frozen_of_row w3 R 3 _ 70 hd3
    obtain ⟨va, vc, rfl⟩ := row_slice hr3.out
    have E1 : Hid ((w3.setCell ⟨R, 3, none⟩ (.slice va (T.length + 1) vc)).cell? ⟨R, 1, none⟩ = some (.int .i64 (i : Nat))) := HP.out.c1
    have E3 := hidden e1
    clear hr3 hg3 hd3
    refine hK.out _ _ E3.out (fun hHeld4 => ?_)
    clear hK K
    refine take_dst 16 (some 22) rfl rfl (by kernel_rfl) (by kernel_rfl) (by kernel_rfl) (fun _ _ _ h => h) (v := ?_) (Or.inl ⟨by rfl, ?_⟩) (by assumption) ?_
    rotate_left
    · (intro w hSw; (try dsimp only at hSw); go_simp; try with_reducible rfl)
    simp only [Act.put, List.setIfInBounds_toArray]
    refine take_dst 17 (some 23) rfl rfl (by kernel_rfl) (by kernel_rfl) (by kernel_rfl) (fun _ _ _ h => h) (v := ?_) (Or.inl ⟨by rfl, ?_⟩) (by assumption) ?_
    rotate_left
    · (intro w hSw; (try dsimp only at hSw); go_simp; try with_reducible rfl)
    simp only [Act.put]
    refine wpAnyH_ready (rs := [18]) (by kernel_rfl) (by simp) ?_
    refine AllReadyH.cons rfl (fun K hK => ?_) AllReadyH.nil
    go_simp
    refine hK.out _ _ E1.out (fun hHeld5 => ?_)
    clear hK K
    refine wpAnyH_done (by kernel_rfl) ?_ _
    clear hHeld4 hHeld5 e1 e3 f3
    go_wp2_with fail
    refine (blanks_any ⟨_, HP.out⟩).mono ?_
    rintro e w4 ⟨rfl, hb⟩
    have Hb := hidden hb
    clear hb
    go_wp2
    go_end0
    exact ⟨rfl, Hb.out⟩
  · go_simp
    refine hK.out _ _ H1.out.c1 (fun hHeld1 => ?_)
    clear hK K hHeld1
    have c31 := H1.out.c3
    refine wpAnyH_ready (rs := [4]) (by kernel_rfl) (by simp) ?_
    refine AllReadyH.cons rfl (fun K hK => ?_) AllReadyH.nil
    go_simp
    refine hK.out _ _ H1.out.c1 (fun hHeld2 => ?_)
    clear hK K hHeld2 c31
    generalize hW : w1 = W at *
    refine wpAnyH_ready (rs := [15]) (by kernel_rfl) (by simp) ?_
    refine AllReadyH.cons rfl (fun K hK => ?_) AllReadyH.nil
    refine step_append_wh rfl (.tmp 10) (.tmp 20) 24 rfl B 47 i0 (.agg #[.int .u8 0, .int .i64 0, .int .i64 0]) 3 24 Try.underlying24 hi hz0 hz1 hz2 rfl (by decide) tv T.length (rowT T) (by simp [Act.eval]) H1.out.row ⟨W.heap.size, 0, none⟩ 1 1 [.int .u8 (k : Nat), .int .i64 (s : Nat), .int .i64 ((i : Int) - (s : Int))] (by simp [Act.eval]) rfl (cells3e _ _ _ _ _) (by intro u hu; simp at hu; rcases hu with rfl | rfl | rfl <;> rfl) (by unfold maxLen; omega) (by omega) H1.out.bs (by decide) ?_
    intro v' w3 hr3 hg3 _
    have HP : Hid (RS B R n w0 v f (w3.setCell ⟨R, 3, none⟩ v') v' i d (T ++ [(k, s, i - s)])) := H1.out.push hT (by rw [rowT_one, show (((i - s : Nat) : Nat) : Int) = (i : Int) - (s : Int) by omega]; exact hr3.out) hg3.out
    have hd3 : w3.heap[R]? = some (.cells #[v, .int .i64 (i : Nat), .int .i64 (d : Nat), tv] 70 (0, 0)) := (hg3.out.block R H1.out.lt (fun e => H1.out.own e.symm)).trans H1.out.head
    have e1 : w3.cell? ⟨R, 1, none⟩ = some (.int .i64 (i : Nat)) := by simp only [World.cell?, hd3]; rfl
    have e3 : w3.cell? ⟨R, 3, none⟩ = some tv := by simp only [World.cell?, hd3]; rfl
    have f3 : w3.frozen? ⟨R, 3, none⟩ = false := frozen_of_row w3 R 3 _ 70 hd3
    obtain ⟨va, vc, rfl⟩ := row_slice hr3.out
    have E1 : Hid ((w3.setCell ⟨R, 3, none⟩ (.slice va (T.length + 1) vc)).cell? ⟨R, 1, none⟩ = some (.int .i64 (i : Nat))) := HP.out.c1
    have E3 := hidden e1
    clear hr3 hg3 hd3
    refine hK.out _ _ E3.out (fun hHeld4 => ?_)
    clear hK K
    refine take_dst 16 (some 22) rfl rfl (by kernel_rfl) (by kernel_rfl) (by kernel_rfl) (fun _ _ _ h => h) (v := ?_) (Or.inl ⟨by rfl, ?_⟩) (by assumption) ?_
    rotate_left
    · (intro w hSw; (try dsimp only at hSw); go_simp; try with_reducible rfl)
    simp only [Act.put, List.setIfInBounds_toArray]
    refine take_dst 17 (some 23) rfl rfl (by kernel_rfl) (by kernel_rfl) (by kernel_rfl) (fun _ _ _ h => h) (v := ?_) (Or.inl ⟨by rfl, ?_⟩) (by assumption) ?_
    rotate_left
    · (intro w hSw; (try dsimp only at hSw); go_simp; try with_reducible rfl)
    simp only [Act.put]
    refine wpAnyH_ready (rs := [18]) (by kernel_rfl) (by simp) ?_
    refine AllReadyH.cons rfl (fun K hK => ?_) AllReadyH.nil
    go_simp
    refine hK.out _ _ E1.out (fun hHeld5 => ?_)
    clear hK K
    refine wpAnyH_done (by kernel_rfl) ?_ _
    clear hHeld4 hHeld5 e1 e3 f3
    go_wp2_with fail
    refine (blanks_any ⟨_, HP.out⟩).mono ?_
    rintro e w4 ⟨rfl, hb⟩
    have Hb := hidden hb
    clear hb
    go_wp2
    go_end0
    exact ⟨rfl, Hb.out⟩
end Go.Proofs.PlatenJson

/- What sign, digits, escape of the reader come to. -/
namespace Go.Proofs.PlatenJson
open Go Go.RowKit
set_option linter.unusedVariables false
set_option maxRecDepth 100000
variable {B R n : Nat} {w0 : World} {v : Value} {f : Nat → Nat} {w : World} {i d : Nat} {T : List Tk}

set_option maxHeartbeats 1000000 in
theorem sign_yes (h : Rd B R n w0 v f w i d T) (k : Nat) (hk : k < 256) (s : ByteArray) (hs : see f n i s = true) :
    Calls Try.prog 85 #[.pointer (some ⟨R, 0, none⟩), .int .u8 (k : Nat), .string s] w fun e w' => e = .returned (.tuple #[]) ∧ BlP B R n w0 v f (i + 1) d (T ++ [(k, i, 1)]) w' := by
  have cn := need_yes h s hs
  have hl := h.len
  obtain ⟨tv, h⟩ := h
  have c1 := h.c1
  have Hl := hidden hl
  clear h hs hl
  go_enter Try.func85, Try.ntmps85
  go_wp2_with fail
  refine cn.mono ?_
  rintro e w' ⟨rfl, h1⟩
  have ct := token_any h1 k i hk (Nat.le_succ _) (by have := Hl.out; omega)
  rw [show i + 1 - i = 1 by omega] at ct
  clear h1 cn c1
  go_wp2_with fail
  refine ct.mono ?_
  rintro e w' ⟨rfl, hb⟩
  have Hb := hidden hb
  clear hb ct
  go_wp2
  go_end0
  exact ⟨rfl, Hb.out⟩
set_option maxHeartbeats 1000000 in
theorem sign_no (h : Rd B R n w0 v f w i d T) (k : Nat) (s : ByteArray) (hs : see f n i s = false) :
    Calls Try.prog 85 #[.pointer (some ⟨R, 0, none⟩), .int .u8 (k : Nat), .string s] w fun e w' => e = Boom 5 ∧ Rd B R n w0 v f w' i d T := by
  have cn := need_no h s hs
  obtain ⟨tv, h⟩ := h
  have c1 := h.c1
  clear h hs
  go_enter Try.func85, Try.ntmps85
  go_wp2_with fail
  refine cn.mono ?_
  rintro e w' ⟨rfl, h1⟩
  have H1 := hidden h1
  clear h1 cn c1
  go_wp2
  exact ⟨rfl, rfl, H1.out⟩

def DgP (B R n : Nat) (w0 : World) (v : Value) (f : Nat → Nat) (i d : Nat) (T : List Tk) (w : World) : Prop := ∃ j, i < j ∧ j ≤ n ∧ (∀ k, i ≤ k → k < j → isD (f k) = true) ∧ (j < n → isD (f j) = false) ∧ Rd B R n w0 v f w j d T
set_option maxHeartbeats 1000000 in
theorem digits_yes (h : Rd B R n w0 v f w i d T) (hi : i < n) (hd : isD (f i) = true) :
    Calls Try.prog 89 #[.pointer (some ⟨R, 0, none⟩)] w fun e w' => e = .returned (.tuple #[]) ∧ DgP B R n w0 v f i d T w' := by
  have cn := need_yes h ⟨#[48, 49, 50, 51, 52, 53, 54, 55, 56, 57]⟩ (by rw [see_d h]; simp [hi, hd])
  have Hd := hidden hd
  clear h hi hd
  go_enter Try.func89, Try.ntmps89
  go_wp2_with fail
  refine cn.mono ?_
  rintro e w1 ⟨rfl, h1⟩
  have H1 := hidden h1
  clear h1 cn
  go_wp2_with fail
  go_loopw [] (fun wr => ∃ j, i < j ∧ (∀ k, i ≤ k → k < j → isD (f k) = true) ∧ Rd B R n w0 v f wr j d T) (fun wr => n - atOf R wr)
  case atStart => exact ⟨i + 1, Nat.lt_succ_self _, fun k h1 h2 => by (obtain rfl : k = i := by omega); exact Hd.out, H1.out⟩
  case round =>
    obtain ⟨j, hij, hall, hr⟩ := hrel
    have Hall := hidden hall
    have Hat := hidden hr.at
    cases hs : see f n j ⟨#[48, 49, 50, 51, 52, 53, 54, 55, 56, 57]⟩ with
    | true =>
      have ct := take_yes hr _ hs
      rw [see_d hr] at hs
      simp at hs
      have Hs := hidden hs
      clear hs hall hr
      go_wp2_with fail
      refine ct.mono ?_
      rintro e w1 ⟨rfl, h1⟩
      have H1 := hidden h1
      clear h1 ct
      go_wp2
      go_roundw
      case rel =>
        refine ⟨j + 1, by omega, fun k h1 h2 => ?_, H1.out⟩
        rcases Nat.lt_or_ge k j with q | q
        · exact Hall.out k h1 q
        · obtain rfl : k = j := by omega
          exact Hs.out.2
      case measure => rw [H1.out.at, Hat.out]; have := Hs.out.1; omega
    | false =>
      have ct := take_no hr _ hs
      rw [see_d hr] at hs
      have Hs : Hid (j < n → isD (f j) = false) := fun q => by simpa [q] using hs
      have Hn := hidden hr.hi
      clear hs hall hr
      go_wp2_with fail
      refine ct.mono ?_
      rintro e w1 ⟨rfl, h1⟩
      have H1 := hidden h1
      clear h1 ct
      go_wp2
      go_end0
      exact ⟨rfl, j, hij, Hn.out, Hall.out, Hs.out, H1.out⟩
set_option maxHeartbeats 1000000 in
theorem digits_no (h : Rd B R n w0 v f w i d T) (hd : i < n → isD (f i) = false) :
    Calls Try.prog 89 #[.pointer (some ⟨R, 0, none⟩)] w fun e w' => e = Boom 5 ∧ Rd B R n w0 v f w' i d T := by
  have cn := need_no h ⟨#[48, 49, 50, 51, 52, 53, 54, 55, 56, 57]⟩ (by
    rw [see_d h]
    by_cases hi : i < n
    · simp [hd hi]
    · simp [hi])
  clear h hd
  go_enter Try.func89, Try.ntmps89
  go_wp2_with fail
  refine cn.mono ?_
  rintro e w1 ⟨rfl, h1⟩
  have H1 := hidden h1
  clear h1 cn
  go_wp2
  exact ⟨rfl, rfl, H1.out⟩

/-- An escape is passed, or not. -/
def EsP (B R n : Nat) (w0 : World) (v : Value) (f : Nat → Nat) (i d : Nat) (T : List Tk) (o : Res) (S : List Nat) (T' : List Tk) (nm : Bool) (fr : Nat) (e : Ending) (w' : World) : Prop :=
  (e = .returned (.tuple #[]) ∧ ∃ j, i < j ∧ Rd B R n w0 v f w' j d T ∧ Cur f n o 6 S T' nm fr j) ∨ (e = Boom 5 ∧ ∃ j, Rd B R n w0 v f w' j d T ∧ o = ([], j, 5))
def HxP (f : Nat → Nat) (n : Nat) (o : Res) (S : List Nat) (T' : List Tk) (nm : Bool) (fr k j : Nat) : Prop := if k = 4 then Cur f n o 6 S T' nm fr j else CurH f n o (4 - k) S T' nm fr j
set_option maxHeartbeats 2000000 in
theorem escape_any {o : Res} {S : List Nat} {T' : List Tk} {nm : Bool} {fr : Nat} (h : Rd B R n w0 v f w i d T) (hi : i < n) (hc : f i = 92) (hm : Cur f n o 6 S T' nm fr i) :
    Calls Try.prog 87 #[.pointer (some ⟨R, 0, none⟩)] w (EsP B R n w0 v f i d T o S T' nm fr) := by
  have cn := need_yes h ⟨#[92]⟩ (by rw [see_1 h]; simp [hi, hc])
  have HM := hidden (t_esc hm hi hc)
  clear h hi hc hm
  go_enter Try.func87, Try.ntmps87
  go_wp2_with fail
  refine cn.mono ?_
  rintro e w1 ⟨rfl, h1⟩
  clear cn
  cases hs : see f n (i + 1) ⟨#[117]⟩ with
  | true =>
    have ct := take_yes h1 _ hs
    rw [see_1 h1] at hs
    simp at hs
    have HM2 := hidden (e_u HM.out hs.1 hs.2)
    clear h1 hs HM
    go_wp2_with fail
    refine ct.mono ?_
    rintro e w2 ⟨rfl, h2⟩
    have H2 := hidden h2
    clear ct h2
    go_wp2_with fail
    go_loopw [9] (fun x wr => ∃ k j : Nat, k ≤ 4 ∧ x = .int .i64 (k : Nat) ∧ i < j ∧ Rd B R n w0 v f wr j d T ∧ HxP f n o S T' nm fr k j) (fun x _ => 4 - (intOf x).toNat)
    case atStart => exact ⟨0, _, by omega, rfl, by omega, H2.out, by rw [HxP, if_neg (by decide)]; exact HM2.out⟩
    case round =>
      obtain ⟨k, j, hk, rfl, hij, hr, hx⟩ := hrel
      clear HM2 H2
      by_cases hlt : k < 4
      · have hkz : (k : Int) < 4 := by omega
        unfold HxP at hx
        rw [if_neg (by omega)] at hx
        cases hs : see f n j ⟨#[48, 49, 50, 51, 52, 53, 54, 55, 56, 57, 97, 98, 99, 100, 101, 102, 65, 66, 67, 68, 69, 70]⟩ with
        | true =>
          have cn := need_yes hr _ hs
          rw [see_h hr] at hs
          simp at hs
          have HX : Hid (HxP f n o S T' nm fr (k + 1) (j + 1)) := by
            unfold HxP Hid
            by_cases h4 : k + 1 = 4
            · rw [if_pos h4]
              rw [show 4 - k = 1 by omega] at hx
              exact h_last hx hs.1 hs.2
            · rw [if_neg h4]
              rw [show 4 - k = (4 - (k + 2)) + 2 by omega] at hx
              rw [show 4 - (k + 1) = (4 - (k + 2)) + 1 by omega]
              exact h_one hx hs.1 hs.2
          clear hr hs hx
          go_wp2_with fail
          refine cn.mono ?_
          rintro e w3 ⟨rfl, h3⟩
          have H3 := hidden h3
          clear cn h3
          go_wp2
          go_roundw
          case rel => exact ⟨k + 1, j + 1, by omega, by go_num, by omega, H3.out, HX.out⟩
          case measure => simp [intOf]; omega
        | false =>
          have cn := need_no hr _ hs
          rw [see_h hr] at hs
          have HB : Hid (o = ([], j, 5)) := by
            by_cases q : j < n
            · exact h_bad hx q (by simpa [q] using hs)
            · have q2 := hr.hi
              obtain rfl : j = n := by omega
              exact h_end hx
          clear hr hs hx
          go_wp2_with fail
          refine cn.mono ?_
          rintro e w3 ⟨rfl, h3⟩
          have H3 := hidden h3
          clear cn h3
          go_wp2
          exact ⟨rfl, Or.inr ⟨rfl, _, H3.out, HB.out⟩⟩
      · obtain rfl : k = 4 := by omega
        unfold HxP at hx
        rw [if_pos rfl] at hx
        have HX := hidden hx
        have HR := hidden hr
        clear hx hr
        go_wp2
        go_end0
        exact Or.inl ⟨rfl, _, hij, HR.out, HX.out⟩
  | false =>
    have ct := take_no h1 _ hs
    rw [see_1 h1] at hs
    have Hu : Hid (i + 1 < n → f (i + 1) ≠ 117) := fun q => by simpa [q] using hs
    clear h1 hs
    go_wp2_with fail
    refine ct.mono ?_
    rintro e w2 ⟨rfl, h2⟩
    clear ct
    cases hs : see f n (i + 1) ⟨#[34, 92, 47, 98, 102, 110, 114, 116]⟩ with
    | true =>
      have cn := need_yes h2 _ hs
      rw [see_e h2] at hs
      simp at hs
      have HM2 := hidden (e_one HM.out hs.1 hs.2)
      clear h2 hs HM Hu
      go_wp2_with fail
      refine cn.mono ?_
      rintro e w3 ⟨rfl, h3⟩
      have H3 := hidden h3
      clear cn h3
      go_wp2
      go_end0
      exact Or.inl ⟨rfl, _, by omega, H3.out, HM2.out⟩
    | false =>
      have cn := need_no h2 _ hs
      rw [see_e h2] at hs
      have HB : Hid (o = ([], i + 1, 5)) := by
        by_cases q : i + 1 < n
        · exact e_bad HM.out q (by simpa [q] using hs) (Hu.out q)
        · have q2 := h2.hi
          obtain rfl : i + 1 = n := by omega
          exact n_bad_end HM.out rfl (by decide)
      clear h2 hs HM Hu
      go_wp2_with fail
      refine cn.mono ?_
      rintro e w3 ⟨rfl, h3⟩
      have H3 := hidden h3
      clear cn h3
      go_wp2
      exact ⟨rfl, Or.inr ⟨rfl, _, H3.out, HB.out⟩⟩
end Go.Proofs.PlatenJson

/- What quoted of the reader comes to. -/
namespace Go.Proofs.PlatenJson
open Go Go.RowKit
set_option linter.unusedVariables false
set_option maxRecDepth 100000
variable {B R n : Nat} {w0 : World} {v : Value} {f : Nat → Nat} {w : World} {i d : Nat} {T : List Tk}

/-- Something is passed, with the blanks behind it, and the machine stands there, too; or it can't be. -/
def Done (B R n : Nat) (w0 : World) (v : Value) (f : Nat → Nat) (o : Res) (d i st : Nat) (S : List Nat) (e : Ending) (w' : World) : Prop :=
  (e = .returned (.tuple #[]) ∧ ∃ j T, i < j ∧ (j < n → isB (f j) = false) ∧ Rd B R n w0 v f w' j d T ∧ Cv f n o st S T false j) ∨
  (∃ x j : Nat, e = Boom x ∧ Rx B R n w0 v f w' j ∧ o = ([], j, x))

set_option maxHeartbeats 2000000 in
theorem quoted_any {o : Res} {S : List Nat} {nm : Bool} {st : Nat} (hst : Hid ((if nm then 4 else 5) = st)) (h : Rd B R n w0 v f w i d T) (hq : i < n → f i = 34 → Cur f n o 6 S T nm i (i + 1)) (hno : (i < n → f i ≠ 34) → o = ([], i, 5)) :
    Calls Try.prog 62 #[.pointer (some ⟨R, 0, none⟩)] w (Done B R n w0 v f o d i st S) := by
  have Hl := hidden h.len
  have Hn := hidden h.hn
  have Hi := hidden h.hi
  cases hs : see f n i ⟨#[34]⟩ with
  | false =>
    have cn := need_no h _ hs
    rw [see_1 h] at hs
    have HB : Hid (o = ([], i, 5)) := hno (fun q => by simpa [q] using hs)
    obtain ⟨tv, h⟩ := h
    have c1 := h.c1
    clear h hs hq hno
    go_enter Try.func62, Try.ntmps62
    go_step3
    go_wp2_with fail
    refine cn.mono ?_
    rintro e w1 ⟨rfl, h1⟩
    have H1 := hidden h1
    clear h1 cn c1
    go_wp2_with fail
    exact ⟨rfl, Or.inr ⟨5, i, rfl, H1.out.x, HB.out⟩⟩
  | true =>
    have cn := need_yes h _ hs
    rw [see_1 h] at hs
    simp at hs
    have HM := hidden (hq hs.1 hs.2)
    obtain ⟨tv, h⟩ := h
    have c1 := h.c1
    clear h hs hq hno
    go_enter Try.func62, Try.ntmps62
    go_step3
    go_wp2_with fail
    refine cn.mono ?_
    rintro e w1 ⟨rfl, h1⟩
    have H1 := hidden h1
    clear h1 cn c1
    go_wp2_with fail
    go_step3
    go_wp2_with fail
    go_loopw [3] (fun c wr => ∃ j, i < j ∧ Rd B R n w0 v f wr j d T ∧ Cur f n o 6 S T nm i j) (fun _ wr => n - atOf R wr)
    case atStart => exact ⟨i + 1, Nat.lt_succ_self _, H1.out, HM.out⟩
    case round =>
      obtain ⟨j, hij, hr, hm⟩ := hrel
      have Hat := hidden hr.at
      have HMj := hidden hm
      have ca := ahead_any hr
      have Hjn := hidden hr.hi
      have hjb : j ≤ 100000 := by have := hr.hi; have := Hn.out; omega
      have hfj : ahd f n j < 256 := by have := hr.hf j; unfold ahd; split <;> omega
      have Hah : Hid (ahd f n j = if j = n then 0 else f j) := rfl
      clear hr hm HM H1
      generalize ahd f n j = c at *
      by_cases q1 : c = 34
      · have hz : ((c : Int) == 34) = true := by simp; omega
        have hjn : j < n := by have := Hjn.out; have := Hah.out; rcases Nat.lt_or_ge j n with h | h; exact h; rw [if_pos (by omega)] at this; omega
        have hfc : f j = 34 := by have := Hah.out; rw [if_neg (by omega)] at this; omega
        have HC := hidden (t_close HMj.out hjn hfc)
        clear HMj Hah
        go_wp2_with fail
        refine ca.mono ?_
        rintro e w2 ⟨rfl, h2⟩
        have cn := need_yes h2 ⟨#[34]⟩ (by rw [see_1 h2]; simp [hjn, hfc])
        clear ca h2 hfc hjn
        go_wp2_with fail
        refine cn.mono ?_
        rintro e w3 ⟨rfl, h3⟩
        have ct := token_any h3 5 i (by decide) (by omega) (by have := Hl.out; omega)
        clear cn h3
        go_wp2_with fail
        refine ct.mono ?_
        rintro e w4 ⟨rfl, j4, hk4, h4⟩
        have HK4 := hidden hk4
        have H4 := hidden h4
        clear ct hk4 h4
        go_wp2_with fail
        go_end0
        refine Or.inl ⟨rfl, j4, _, ?_, HK4.out.2.2.2, H4.out, ?_⟩
        · have := HK4.out.1; omega
        · rw [← hst.out]
          exact b_skip (by split <;> decide) HC.out HK4.out
      · have hz : ((c : Int) == 34) = false := by simp; omega
        by_cases q2 : c = 92
        · have hz2 : ((c : Int) == 92) = true := by simp; omega
          have hjn : j < n := by have := Hjn.out; have := Hah.out; rcases Nat.lt_or_ge j n with h | h; exact h; rw [if_pos (by omega)] at this; omega
          have hfc : f j = 92 := by have := Hah.out; rw [if_neg (by omega)] at this; omega
          have Hjn2 := hidden hjn
          have Hfc := hidden hfc
          clear Hah hjn hfc
          go_wp2_with fail
          refine ca.mono ?_
          rintro e w2 ⟨rfl, h2⟩
          have ce := escape_any h2 Hjn2.out Hfc.out HMj.out
          clear ca h2 HMj
          go_wp2_with fail
          refine ce.mono ?_
          rintro e w3 hE
          rcases hE with ⟨rfl, j3, hj3, h3, hm3⟩ | ⟨rfl, j3, h3, ho⟩
          · have H3 := hidden h3
            have HM3 := hidden hm3
            clear ce h3 hm3
            go_wp2_with fail
            go_roundw
            case rel => exact ⟨j3, by omega, H3.out, HM3.out⟩
            case measure => rw [H3.out.at, Hat.out]; have := Hjn2.out; omega
          · have H3 := hidden h3
            have HO := hidden ho
            clear ce h3 ho
            go_wp2_with fail
            exact ⟨rfl, Or.inr ⟨5, j3, rfl, H3.out.x, HO.out⟩⟩
        · have hz2 : ((c : Int) == 92) = false := by simp; omega
          by_cases q3 : c < 32
          · have hz3 : (c : Int) < 32 := by omega
            have HO : Hid (o = ([], j, 5)) := by
              rcases Nat.lt_or_ge j n with h | h
              · refine t_low HMj.out h ?_
                have := Hah.out; rw [if_neg (by omega)] at this; omega
              · have := Hjn.out
                obtain rfl : j = n := by omega
                exact n_bad_end HMj.out rfl (by decide)
            clear HMj Hah
            go_wp2_with fail
            refine ca.mono ?_
            rintro e w2 ⟨rfl, h2⟩
            have H2 := hidden h2
            clear ca h2
            go_wp2_with fail
            exact ⟨rfl, Or.inr ⟨5, j, rfl, H2.out.x, HO.out⟩⟩
          · have hz3 : ¬ ((c : Int) < 32) := by omega
            have hjn : j < n := by have := Hjn.out; have := Hah.out; rcases Nat.lt_or_ge j n with h | h; exact h; rw [if_pos (by omega)] at this; omega
            have hfc : f j = c := by have := Hah.out; rw [if_neg (by omega)] at this; omega
            have HM2 := hidden (t_plain HMj.out hjn (by omega) (by omega) (by omega))
            have Hjn2 := hidden hjn
            clear Hah hjn hfc HMj
            go_wp2_with fail
            refine ca.mono ?_
            rintro e w2 ⟨rfl, tv2, h2⟩
            have c12 := h2.c1
            have fr2 := h2.free 1
            have H2 : Hid (RS B R n w0 v f (w2.setCell ⟨R, 1, none⟩ (.int .i64 ((j : Int) + 1))) tv2 (j + 1) d T) := by
              have := h2.at' (i' := j + 1) Hjn2.out (Nat.le_succ _)
              simpa [Hid] using this
            clear ca h2
            go_wp2_with fail
            go_roundw
            case rel => exact ⟨j + 1, by omega, ⟨tv2, H2.out⟩, HM2.out⟩
            case measure => rw [Rd.at ⟨tv2, H2.out⟩, Hat.out]; have := Hjn2.out; omega
end Go.Proofs.PlatenJson

/- What word and number of the reader come to. -/
namespace Go.Proofs.PlatenJson
open Go Go.RowKit
set_option linter.unusedVariables false
set_option maxRecDepth 100000
variable {B R n : Nat} {w0 : World} {v : Value} {f : Nat → Nat} {w : World} {i d : Nat} {T : List Tk}

def WdP (f : Nat → Nat) (n : Nat) (o : Res) (S : List Nat) (T : List Tk) (i : Nat) (L : List Nat) (k : Nat) : Prop :=
  if k = 0 then (i < n ∧ f i = L.getD 0 0) ∧ CurW f n o (L.drop 1) S T i (i + 1)
  else if k < L.length then CurW f n o (L.drop k) S T i (i + k)
  else Cv f n o 5 S (T ++ [(5, i, k)]) false (i + k)
theorem WdP.yes {o : Res} {S : List Nat} {L : List Nat} {k : Nat} (h : WdP f n o S T i L k) (h2 : 2 ≤ L.length) (hk : k < L.length) (hn : i + k < n) (hc : f (i + k) = L.getD k 0) : WdP f n o S T i L (k + 1) := by
  unfold WdP at h ⊢
  rw [if_neg (by omega)]
  by_cases h0 : k = 0
  · subst h0
    rw [if_pos rfl] at h
    rw [if_pos (by omega)]
    exact h.2
  · rw [if_neg h0, if_pos hk] at h
    have e : L.drop k = L.getD k 0 :: L.drop (k + 1) := by
      rw [List.drop_eq_getElem_cons hk, List.getD_eq_getElem?_getD, List.getElem?_eq_getElem hk]; rfl
    rw [e] at h
    by_cases h1 : k + 1 < L.length
    · rw [if_pos h1]
      have e2 : L.drop (k + 1) = L.getD (k + 1) 0 :: L.drop (k + 1 + 1) := by
        rw [List.drop_eq_getElem_cons h1, List.getD_eq_getElem?_getD, List.getElem?_eq_getElem h1]; rfl
      rw [e2] at h
      have := w_one h hn hc
      rw [← e2] at this
      exact this
    · rw [if_neg h1]
      rw [List.drop_of_length_le (show L.length ≤ k + 1 by omega)] at h
      have := w_last h hn hc
      rwa [show i + k + 1 - i = k + 1 by omega] at this
theorem WdP.no {o : Res} {S : List Nat} {L : List Nat} {k : Nat} (h : WdP f n o S T i L k) (hk : k < L.length) (hle : i + k ≤ n) (hc : i + k < n → f (i + k) ≠ L.getD k 0) : o = ([], i + k, 5) := by
  unfold WdP at h
  by_cases h0 : k = 0
  · subst h0
    rw [if_pos rfl] at h
    exact absurd h.1.2 (hc h.1.1)
  · rw [if_neg h0, if_pos hk] at h
    by_cases hn : i + k < n
    · have e : L.drop k = L.getD k 0 :: L.drop (k + 1) := by
        rw [List.drop_eq_getElem_cons hk, List.getD_eq_getElem?_getD, List.getElem?_eq_getElem hk]; rfl
      rw [e] at h
      exact w_bad h hn (hc hn)
    · have : i + k = n := by omega
      rw [this] at h ⊢
      exact w_end h
def LN (s : ByteArray) : List Nat := s.data.toList.map UInt8.toNat
theorem LN_len (s : ByteArray) : (LN s).length = s.size := by simp only [LN, List.length_map]; rfl
theorem ext_one (s : ByteArray) (k : Nat) (h : k < s.size) : s.extract k (k + 1) = ⟨#[s[k]]⟩ := by
  apply ByteArray.ext
  rw [ByteArray.data_extract]
  apply Array.ext
  · simp; have : k < s.data.size := h; omega
  · intro j h1 h2
    simp at h2
    subst h2
    simp
    rfl
theorem LN_get (s : ByteArray) (k : Nat) (h : k < s.size) : (LN s).getD k 0 = (s[k]).toNat := by
  have h' : k < s.data.toList.length := h
  simp only [LN, List.getD_eq_getElem?_getD, List.getElem?_map, List.getElem?_eq_getElem h']
  rfl

set_option maxHeartbeats 2000000 in
theorem word_any {o : Res} {S : List Nat} (s : ByteArray) (h2 : 2 ≤ s.size) (h9 : s.size ≤ 9) (h : Rd B R n w0 v f w i d T) (hw : WdP f n o S T i (LN s) 0) :
    Calls Try.prog 63 #[.pointer (some ⟨R, 0, none⟩), .string s] w (Done B R n w0 v f o d i 5 S) := by
  have Hl := hidden h.len
  have Hn := hidden h.hn
  have HW := hidden hw
  have HR := hidden h
  have HL := hidden (LN_len s)
  have hsl : ∀ (k : Nat) (u : World), k < s.size → (Instr.slice 9 (.string s) (some (.int .i64 (k : Nat))) (some (.int .i64 ((k : Int) + 1))) none).run Try.prog u = .ok (.string (s.extract k (k + 1))) u := fun k u hk => by
    rw [run_slice_string u 9 s .i64 .i64 (k : Nat) ((k : Int) + 1) Try.underlying9 (by omega) (by omega) (by omega)]
    rw [show ((k : Nat) : Int).toNat = k from rfl, show ((k : Int) + 1).toNat = k + 1 by omega]
  have Hsl := hidden hsl
  clear hsl
  obtain ⟨z, hz⟩ : ∃ z, s.size = z := ⟨_, rfl⟩
  have HZ := hidden hz
  rw [hz] at h2 h9
  obtain ⟨tv, h⟩ := h
  have c1 := h.c1
  clear h hw hz
  go_enter Try.func63, Try.ntmps63
  go_wp2_with fail
  go_loopw [5, 12] (fun _ x wr => ∃ k : Nat, k ≤ z ∧ x = .int .i64 (k : Nat) ∧ i + k ≤ n ∧ Rd B R n w0 v f wr (i + k) d T ∧ WdP f n o S T i (LN s) k) (fun _ x _ => z - (intOf x).toNat)
  case atStart => exact ⟨0, by omega, rfl, HR.out.hi, HR.out, HW.out⟩
  case round =>
    obtain ⟨k, hk, rfl, hle, hr, hw⟩ := hrel
    have HWk := hidden hw
    have HRk := hidden hr
    clear hr hw HR HW
    by_cases hlt : k < z
    · have hlz : (k : Int) < (s.size : Int) := by rw [HZ.out]; omega
      have hks : k < s.size := by rw [HZ.out]; exact hlt
      have He := hidden (ext_one s k hks)
      have Hg := hidden (LN_get s k hks)
      have hkb : k ≤ 9 := by omega
      cases hs : see f n (i + k) ⟨#[s[k]]⟩ with
      | true =>
        have cn := need_yes HRk.out _ hs
        rw [see_1 HRk.out] at hs
        simp at hs
        have HW2 := hidden (HWk.out.yes (by rw [HL.out, HZ.out]; exact h2) (by rw [HL.out]; exact hks) hs.1 (by rw [Hg.out]; exact hs.2))
        have Hn1 := hidden hs.1
        rw [← He.out] at cn
        have hsl := fun u => Hsl.out k u hks
        clear hs
        go_wp2_with fail
        refine cn.mono ?_
        rintro e w3 ⟨rfl, h3⟩
        have H3 := hidden h3
        clear cn h3 hsl
        go_wp2_with fail
        go_roundw
        case rel => exact ⟨k + 1, by omega, by go_num, by have := Hn1.out; omega, H3.out, HW2.out⟩
        case measure => simp [intOf]; omega
      | false =>
        have cn := need_no HRk.out _ hs
        rw [see_1 HRk.out] at hs
        have HO : Hid (o = ([], i + k, 5)) := HWk.out.no (by rw [HL.out]; exact hks) hle (fun q => by rw [Hg.out]; simpa [q] using hs)
        rw [← He.out] at cn
        have hsl := fun u => Hsl.out k u hks
        clear hs
        go_wp2_with fail
        refine cn.mono ?_
        rintro e w3 ⟨rfl, h3⟩
        have H3 := hidden h3
        clear cn h3 hsl
        go_wp2_with fail
        exact ⟨rfl, Or.inr ⟨5, i + k, rfl, H3.out.x, HO.out⟩⟩
    · obtain rfl : k = z := by omega
      have hlz : ¬ ((k : Int) < (s.size : Int)) := by rw [HZ.out]; omega
      have HV : Hid (Cv f n o 5 S (T ++ [(5, i, k)]) false (i + k)) := by
        have := HWk.out
        unfold WdP at this
        rwa [if_neg (by omega), if_neg (by rw [HL.out, HZ.out]; omega)] at this
      have ct := token_any HRk.out 5 i (by decide) (by omega) (by have := Hl.out; omega)
      rw [show i + k - i = k by omega] at ct
      clear HRk HWk
      go_wp2_with fail
      refine ct.mono ?_
      rintro e w4 ⟨rfl, j4, hk4, h4⟩
      have HK4 := hidden hk4
      have H4 := hidden h4
      clear ct hk4 h4
      go_wp2_with fail
      go_end0
      refine Or.inl ⟨rfl, j4, _, ?_, HK4.out.2.2.2, H4.out, b_skip (by decide) HV.out HK4.out⟩
      have := HK4.out.1; omega
end Go.Proofs.PlatenJson

/- What number of the reader comes to. -/
namespace Go.Proofs.PlatenJson
open Go Go.RowKit
set_option linter.unusedVariables false
set_option maxRecDepth 100000
variable {B R n : Nat} {w0 : World} {v : Value} {f : Nat → Nat} {w : World} {i d : Nat} {T : List Tk}

def TkP (B R n : Nat) (w0 : World) (v : Value) (f : Nat → Nat) (i d : Nat) (T : List Tk) (s : ByteArray) (e : Ending) (w : World) : Prop :=
  ∃ b : Bool, e = .returned (.bool b) ∧ b = see f n i s ∧ Rd B R n w0 v f w (if b then i + 1 else i) d T
theorem take_b (h : Rd B R n w0 v f w i d T) (s : ByteArray) : Calls Try.prog 58 #[.pointer (some ⟨R, 0, none⟩), .string s] w (TkP B R n w0 v f i d T s) := by
  cases hs : see f n i s with
  | true => exact (take_yes h s hs).mono fun e w' ⟨he, hr⟩ => ⟨true, he, hs.symm, hr⟩
  | false => exact (take_no h s hs).mono fun e w' ⟨he, hr⟩ => ⟨false, he, hs.symm, hr⟩

/-- A number begins; or its sign has been passed. -/
def NS (f : Nat → Nat) (n : Nat) (o : Res) (S : List Nat) (T : List Tk) (fr j : Nat) : Prop :=
  (∃ st, (st = 0 ∨ st = 1) ∧ Cv f n o st S T false j ∧ j = fr ∧ (j < n → isB (f j) = false ∧ (st = 1 → f j ≠ 93) ∧ (isV (f j) = true → isD (f j) = true))) ∨ Cur f n o 9 S T false fr j
def Num1 (f : Nat → Nat) (n : Nat) (o : Res) (S : List Nat) (T : List Tk) (fr j : Nat) : Prop := ∃ st, (st = 10 ∨ st = 11) ∧ Cur f n o st S T false fr j ∧ (j < n → st = 11 → isD (f j) = false)
def Num2 (f : Nat → Nat) (n : Nat) (o : Res) (S : List Nat) (T : List Tk) (fr j : Nat) : Prop := ∃ st, (st = 10 ∨ st = 11 ∨ st = 13) ∧ Cur f n o st S T false fr j ∧ (j < n → (st ≠ 10 → isD (f j) = false) ∧ (st ≠ 13 → f j ≠ 46))
def Num3 (f : Nat → Nat) (n : Nat) (o : Res) (S : List Nat) (T : List Tk) (fr j : Nat) : Prop := ∃ st, ends st = true ∧ Cur f n o st S T false fr j ∧ (j < n → (numb st (f j)).2 = false)
section
variable {o : Res} {S : List Nat} {fr j j2 : Nat}
theorem n_digits {st : Nat} (hs : st = 11 ∨ st = 13 ∨ st = 16) (h : Cur f n o st S T false fr j) (hle : j ≤ j2) (hn : j2 ≤ n) (ha : ∀ k, j ≤ k → k < j2 → isD (f k) = true) : Cur f n o st S T false fr j2 := by
  have : ∀ d, j + d ≤ j2 → Cur f n o st S T false fr (j + d) := by
    intro d
    induction d with
    | zero => intro _; exact h
    | succ d ih => intro hd; exact n_digit (j := j + d) (ih (by omega)) hs (by omega) (ha (j + d) (by omega) (by omega))
  have := this (j2 - j) (by omega)
  rwa [show j + (j2 - j) = j2 by omega] at this
theorem ns_zero (h : NS f n o S T fr j) (hj : j < n) (hc : f j = 48) : Num1 f n o S T fr (j + 1) := by
  rcases h with ⟨st, hs, h, rfl, _⟩ | h
  · exact ⟨10, Or.inl rfl, s_zero h hs hj hc, fun _ e => by cases e⟩
  · exact ⟨10, Or.inl rfl, m_zero h hj hc, fun _ e => by cases e⟩
theorem ns_digits (h : NS f n o S T fr j) (hj : j < n) (h0 : f j ≠ 48) (hle : j < j2) (hn : j2 ≤ n) (ha : ∀ k, j ≤ k → k < j2 → isD (f k) = true) (he : j2 < n → isD (f j2) = false) : Num1 f n o S T fr j2 := by
  refine ⟨11, Or.inr rfl, n_digits (Or.inl rfl) (j := j + 1) ?_ (by omega) hn (fun k h1 h2 => ha k (by omega) h2), fun q _ => he q⟩
  rcases h with ⟨st, hs, h, rfl, _⟩ | h
  · exact s_digit h hs hj (ha j (Nat.le_refl _) hle) h0
  · exact m_digit h hj (ha j (Nat.le_refl _) hle) h0
theorem ns_bad (h : NS f n o S T fr j) (hle : j ≤ n) (hd : j < n → isD (f j) = false) : o = ([], j, 5) := by
  rcases Nat.lt_or_ge j n with hj | hj
  · rcases h with ⟨st, hs, h, rfl, h2⟩ | h
    · obtain ⟨a, b, c⟩ := h2 hj
      refine v_bad h hs hj a ?_ b
      cases hv : isV (f j) with
      | false => rfl
      | true => have := c hv; rw [hd hj] at this; cases this
    · exact n_bad h (Or.inl rfl) hj (hd hj) (fun e => by cases e)
  · obtain rfl : j = n := by omega
    rcases h with ⟨st, hs, h, rfl, h2⟩ | h
    · exact v_end h (by omega)
    · exact n_bad_end h rfl (by decide)
theorem num1_no (h : Num1 f n o S T fr j) (hp : j < n → f j ≠ 46) : Num2 f n o S T fr j := by
  obtain ⟨st, hs, h, h1⟩ := h
  exact ⟨st, by omega, h, fun q => ⟨fun e => h1 q (by omega), fun _ => hp q⟩⟩
theorem num1_pt (h : Num1 f n o S T fr j) (hj : j < n) (hc : f j = 46) : Cur f n o 12 S T false fr (j + 1) := by
  obtain ⟨st, hs, h, h1⟩ := h
  exact n_point h hs hj hc
theorem pt_digits (h : Cur f n o 12 S T false fr j) (hj : j < n) (hle : j < j2) (hn : j2 ≤ n) (ha : ∀ k, j ≤ k → k < j2 → isD (f k) = true) (he : j2 < n → isD (f j2) = false) : Num2 f n o S T fr j2 :=
  ⟨13, by omega, n_digits (Or.inr (Or.inl rfl)) (n_frac h hj (ha j (Nat.le_refl _) hle)) (by omega) hn (fun k h1 h2 => ha k (by omega) h2), fun q => ⟨fun _ => he q, fun e => absurd rfl e⟩⟩
theorem cur_bad {st : Nat} (hs : st = 12 ∨ st = 14 ∨ st = 15) (h : Cur f n o st S T false fr j) (hle : j ≤ n) (hd : j < n → isD (f j) = false) (h14 : j < n → st = 14 → f j ≠ 43 ∧ f j ≠ 45) : o = ([], j, 5) := by
  rcases Nat.lt_or_ge j n with hj | hj
  · exact n_bad h (by omega) hj (hd hj) (h14 hj)
  · obtain rfl : j = n := by omega
    exact n_bad_end h (by rcases hs with rfl | rfl | rfl <;> rfl) (by omega)
theorem num2_no (h : Num2 f n o S T fr j) (hp : j < n → f j ≠ 101 ∧ f j ≠ 69) : Num3 f n o S T fr j := by
  obtain ⟨st, hs, h, h1⟩ := h
  refine ⟨st, by rcases hs with rfl | rfl | rfl <;> rfl, h, fun q => ?_⟩
  obtain ⟨a, b⟩ := hp q
  obtain ⟨c, e⟩ := h1 q
  rcases hs with rfl | rfl | rfl
  · have := e (by decide); simp [numb, a, b, this]
  · have := e (by decide); have h2 := c (by decide); simp [numb, a, b, this, h2]
  · have h2 := c (by decide); simp [numb, a, b, h2]
theorem num2_e (h : Num2 f n o S T fr j) (hj : j < n) (hc : f j = 101 ∨ f j = 69) : Cur f n o 14 S T false fr (j + 1) := by
  obtain ⟨st, hs, h, h1⟩ := h
  exact n_exp h hs hj hc
/-- Behind the e, and a sign, if there is one. -/
def ExP (f : Nat → Nat) (n : Nat) (o : Res) (S : List Nat) (T : List Tk) (fr j : Nat) : Prop := ∃ st, (st = 14 ∨ st = 15) ∧ Cur f n o st S T false fr j ∧ (j < n → st = 14 → f j ≠ 43 ∧ f j ≠ 45)
theorem ex_digits (h : ExP f n o S T fr j) (hj : j < n) (hle : j < j2) (hn : j2 ≤ n) (ha : ∀ k, j ≤ k → k < j2 → isD (f k) = true) (he : j2 < n → isD (f j2) = false) : Num3 f n o S T fr j2 := by
  obtain ⟨st, hs, h, _⟩ := h
  exact ⟨16, rfl, n_digits (Or.inr (Or.inr rfl)) (n_pow h hs hj (ha j (Nat.le_refl _) hle)) (by omega) hn (fun k h1 h2 => ha k (by omega) h2), fun q => by simp [numb, he q]⟩
theorem ex_bad (h : ExP f n o S T fr j) (hle : j ≤ n) (hd : j < n → isD (f j) = false) : o = ([], j, 5) := by
  obtain ⟨st, hs, h, h14⟩ := h
  exact cur_bad (by omega) h hle hd h14
theorem num3_end (h : Num3 f n o S T fr j) (hle : j ≤ n) : Cv f n o 5 S (T ++ [(5, fr, j - fr)]) false j := by
  obtain ⟨st, hs, h, h1⟩ := h
  exact n_atom h hs hle h1
end

set_option maxHeartbeats 4000000 in
theorem number_any {o : Res} {S : List Nat} {st : Nat} (h : Rd B R n w0 v f w i d T) (hst : st = 0 ∨ st = 1) (hc : Cv f n o st S T false i) (hb : i < n → isB (f i) = false ∧ (st = 1 → f i ≠ 93) ∧ (isV (f i) = true → isD (f i) = true ∨ f i = 45)) :
    Calls Try.prog 64 #[.pointer (some ⟨R, 0, none⟩)] w (Done B R n w0 v f o d i 5 S) := by
  have Hl := hidden h.len
  have ct := take_b h ⟨#[45]⟩
  have Hs0 := hidden (see_1 h 45)
  have HC := hidden hc
  have Hst := hidden hst
  have Hb := hidden hb
  obtain ⟨tv, h⟩ := h
  have c1 := h.c1
  clear h hc hst hb
  go_enter Try.func64, Try.ntmps64
  go_wp2_with fail
  refine ct.mono ?_
  rintro e w1 ⟨b, rfl, hbs, h1⟩
  have HN : Hid (NS f n o S T i (if b then i + 1 else i)) := by
    rw [Hs0.out] at hbs
    cases b with
    | true =>
      simp at hbs
      exact Or.inr (s_minus HC.out Hst.out hbs.1 (by simpa using hbs.2))
    | false =>
      refine Or.inl ⟨st, Hst.out, HC.out, rfl, fun q => ⟨(Hb.out q).1, (Hb.out q).2.1, fun hv => ?_⟩⟩
      rcases (Hb.out q).2.2 hv with h | h
      · exact h
      · simp at hbs; exact absurd h (hbs q)
  have Hi1 : Hid (i ≤ (if b then i + 1 else i)) := by unfold Hid; split <;> omega
  clear ct c1 hbs HC Hst Hb Hs0
  generalize (if b then i + 1 else i) = j1 at *
  cases hsz : see f n j1 ⟨#[48]⟩ with
  | true =>
    have ct := take_yes h1 _ hsz
    rw [see_1 h1] at hsz
    simp at hsz
    have HN1 := hidden (ns_zero HN.out hsz.1 hsz.2)
    have HI1 : Hid (i < j1 + 1) := by have := Hi1.out; unfold Hid; omega
    clear hsz h1 HN Hi1
    go_wp2_with fail
    refine ct.mono ?_
    rintro e w2 ⟨rfl, h2⟩
    have HR1 := hidden h2
    clear ct h2
    generalize j1 + 1 = jb at *
    go_wp2_with fail
    cases hsp : see f n jb ⟨#[46]⟩ with
    | true =>
      have ct := take_yes HR1.out _ hsp
      rw [see_1 HR1.out] at hsp
      simp at hsp
      have HP := hidden (num1_pt HN1.out hsp.1 hsp.2)
      clear hsp HN1 HR1
      go_wp2_with fail
      refine ct.mono ?_
      rintro e w3 ⟨rfl, h3⟩
      have HR4 := hidden h3
      clear ct h3
      go_wp2_with fail
      by_cases hd : (jb + 1) < n ∧ isD (f (jb + 1)) = true
      · have cd := digits_yes HR4.out hd.1 hd.2
        have Hd := hidden hd
        clear HR4 hd
        go_wp2_with fail
        refine cd.mono ?_
        rintro e w5 ⟨rfl, jd, hjd, hjn, hall, hno, h5⟩
        have H5 := hidden h5
        have HN2 := hidden (pt_digits HP.out Hd.out.1 hjd hjn hall hno)
        have HR2 := H5
        have HI2 : Hid (i < jd) := by have := HI1.out; unfold Hid; omega
        clear cd Hd hjd hjn hall hno h5 H5 HP HI1
        generalize jd = j2 at *
        go_wp2_with fail
        cases hse : see f n j2 ⟨#[101, 69]⟩ with
        | true =>
          have ct := take_yes HR2.out _ hse
          rw [see_2 HR2.out] at hse
          simp at hse
          have HE := hidden (num2_e HN2.out hse.1 hse.2)
          clear hse HN2 HR2
          go_wp2_with fail
          refine ct.mono ?_
          rintro e w3 ⟨rfl, h3⟩
          have cs := take_b h3 ⟨#[43, 45]⟩
          have Hs3 := hidden (see_2 h3 43 45)
          clear ct h3
          go_wp2_with fail
          refine cs.mono ?_
          rintro e w4 ⟨b4, rfl, hb4, h4⟩
          have HX : Hid (ExP f n o S T i (if b4 then j2 + 1 + 1 else j2 + 1)) := by
            rw [Hs3.out] at hb4
            cases b4 with
            | true =>
              simp at hb4
              exact ⟨15, Or.inr rfl, n_sign HE.out hb4.1 (by simpa using hb4.2), fun _ e => by cases e⟩
            | false =>
              simp at hb4
              exact ⟨14, Or.inl rfl, HE.out, fun q _ => hb4 q⟩
          have HI4 : Hid (j2 ≤ (if b4 then j2 + 1 + 1 else j2 + 1)) := by unfold Hid; split <;> omega
          have HR4 := hidden h4
          clear cs hb4 h4 Hs3 HE
          generalize (if b4 then j2 + 1 + 1 else j2 + 1) = j4 at *
          by_cases hd : j4 < n ∧ isD (f j4) = true
          · have cd := digits_yes HR4.out hd.1 hd.2
            have Hd := hidden hd
            clear HR4 hd
            go_wp2_with fail
            refine cd.mono ?_
            rintro e w5 ⟨rfl, jd, hjd, hjn, hall, hno, h5⟩
            have H5 := hidden h5
            have HN3 := hidden (ex_digits HX.out Hd.out.1 hjd hjn hall hno)
            have HR3 := H5
            have HI3 : Hid (i < jd) := by have := HI2.out; have := HI4.out; unfold Hid; omega
            clear cd Hd hjd hjn hall hno h5 H5 HX HI4
            go_wp2_with fail
            have ct := token_any HR3.out 5 i (by decide) (by have := HI3.out; omega) (by have := Hl.out; have := HI3.out; omega)
            have HV := hidden (num3_end HN3.out HR3.out.hi)
            clear HN3 HR3
            go_wp2_with fail
            refine ct.mono ?_
            rintro e w9 ⟨rfl, j9, hk9, h9⟩
            have HK9 := hidden hk9
            have H9 := hidden h9
            clear ct hk9 h9
            go_wp2_with fail
            go_end0
            refine Or.inl ⟨rfl, j9, _, ?_, HK9.out.2.2.2, H9.out, b_skip (by decide) HV.out HK9.out⟩
            have := HK9.out.1; have := HI3.out; omega
          · have cd := digits_no HR4.out (fun q => by cases hx : isD (f j4) with | false => rfl | true => exact absurd ⟨q, hx⟩ hd)
            have HO : Hid (o = ([], j4, 5)) := ex_bad HX.out HR4.out.hi (fun q => by cases hx : isD (f j4) with | false => rfl | true => exact absurd ⟨q, hx⟩ hd)
            clear hd
            go_wp2_with fail
            refine cd.mono ?_
            rintro e w5 ⟨rfl, h5⟩
            have H5 := hidden h5
            clear cd h5
            go_wp2_with fail
            exact ⟨rfl, Or.inr ⟨5, j4, rfl, H5.out.x, HO.out⟩⟩
        | false =>
          have ct := take_no HR2.out _ hse
          rw [see_2 HR2.out] at hse
          have HN3 := hidden (num2_no HN2.out (fun q => by simpa [q] using hse))
          clear hse HN2 HR2
          go_wp2_with fail
          refine ct.mono ?_
          rintro e w3 ⟨rfl, h3⟩
          have HR3 := hidden h3
          have HI3 := HI2
          clear ct h3
          go_wp2_with fail
          have ct := token_any HR3.out 5 i (by decide) (by have := HI3.out; omega) (by have := Hl.out; have := HI3.out; omega)
          have HV := hidden (num3_end HN3.out HR3.out.hi)
          clear HN3 HR3
          go_wp2_with fail
          refine ct.mono ?_
          rintro e w9 ⟨rfl, j9, hk9, h9⟩
          have HK9 := hidden hk9
          have H9 := hidden h9
          clear ct hk9 h9
          go_wp2_with fail
          go_end0
          refine Or.inl ⟨rfl, j9, _, ?_, HK9.out.2.2.2, H9.out, b_skip (by decide) HV.out HK9.out⟩
          have := HK9.out.1; have := HI3.out; omega
      · have cd := digits_no HR4.out (fun q => by cases hx : isD (f (jb + 1)) with | false => rfl | true => exact absurd ⟨q, hx⟩ hd)
        have HO : Hid (o = ([], (jb + 1), 5)) := cur_bad (Or.inl rfl) HP.out HR4.out.hi (fun q => by cases hx : isD (f (jb + 1)) with | false => rfl | true => exact absurd ⟨q, hx⟩ hd) (fun _ e => by cases e)
        clear hd
        go_wp2_with fail
        refine cd.mono ?_
        rintro e w5 ⟨rfl, h5⟩
        have H5 := hidden h5
        clear cd h5
        go_wp2_with fail
        exact ⟨rfl, Or.inr ⟨5, (jb + 1), rfl, H5.out.x, HO.out⟩⟩
    | false =>
      have ct := take_no HR1.out _ hsp
      rw [see_1 HR1.out] at hsp
      have HN2 := hidden (num1_no HN1.out (fun q => by simpa [q] using hsp))
      clear hsp HN1 HR1
      go_wp2_with fail
      refine ct.mono ?_
      rintro e w3 ⟨rfl, h3⟩
      have HR2 := hidden h3
      have HI2 := HI1
      clear ct h3 HI1
      generalize jb = j2 at *
      go_wp2_with fail
      cases hse : see f n j2 ⟨#[101, 69]⟩ with
      | true =>
        have ct := take_yes HR2.out _ hse
        rw [see_2 HR2.out] at hse
        simp at hse
        have HE := hidden (num2_e HN2.out hse.1 hse.2)
        clear hse HN2 HR2
        go_wp2_with fail
        refine ct.mono ?_
        rintro e w3 ⟨rfl, h3⟩
        have cs := take_b h3 ⟨#[43, 45]⟩
        have Hs3 := hidden (see_2 h3 43 45)
        clear ct h3
        go_wp2_with fail
        refine cs.mono ?_
        rintro e w4 ⟨b4, rfl, hb4, h4⟩
        have HX : Hid (ExP f n o S T i (if b4 then j2 + 1 + 1 else j2 + 1)) := by
          rw [Hs3.out] at hb4
          cases b4 with
          | true =>
            simp at hb4
            exact ⟨15, Or.inr rfl, n_sign HE.out hb4.1 (by simpa using hb4.2), fun _ e => by cases e⟩
          | false =>
            simp at hb4
            exact ⟨14, Or.inl rfl, HE.out, fun q _ => hb4 q⟩
        have HI4 : Hid (j2 ≤ (if b4 then j2 + 1 + 1 else j2 + 1)) := by unfold Hid; split <;> omega
        have HR4 := hidden h4
        clear cs hb4 h4 Hs3 HE
        generalize (if b4 then j2 + 1 + 1 else j2 + 1) = j4 at *
        by_cases hd : j4 < n ∧ isD (f j4) = true
        · have cd := digits_yes HR4.out hd.1 hd.2
          have Hd := hidden hd
          clear HR4 hd
          go_wp2_with fail
          refine cd.mono ?_
          rintro e w5 ⟨rfl, jd, hjd, hjn, hall, hno, h5⟩
          have H5 := hidden h5
          have HN3 := hidden (ex_digits HX.out Hd.out.1 hjd hjn hall hno)
          have HR3 := H5
          have HI3 : Hid (i < jd) := by have := HI2.out; have := HI4.out; unfold Hid; omega
          clear cd Hd hjd hjn hall hno h5 H5 HX HI4
          go_wp2_with fail
          have ct := token_any HR3.out 5 i (by decide) (by have := HI3.out; omega) (by have := Hl.out; have := HI3.out; omega)
          have HV := hidden (num3_end HN3.out HR3.out.hi)
          clear HN3 HR3
          go_wp2_with fail
          refine ct.mono ?_
          rintro e w9 ⟨rfl, j9, hk9, h9⟩
          have HK9 := hidden hk9
          have H9 := hidden h9
          clear ct hk9 h9
          go_wp2_with fail
          go_end0
          refine Or.inl ⟨rfl, j9, _, ?_, HK9.out.2.2.2, H9.out, b_skip (by decide) HV.out HK9.out⟩
          have := HK9.out.1; have := HI3.out; omega
        · have cd := digits_no HR4.out (fun q => by cases hx : isD (f j4) with | false => rfl | true => exact absurd ⟨q, hx⟩ hd)
          have HO : Hid (o = ([], j4, 5)) := ex_bad HX.out HR4.out.hi (fun q => by cases hx : isD (f j4) with | false => rfl | true => exact absurd ⟨q, hx⟩ hd)
          clear hd
          go_wp2_with fail
          refine cd.mono ?_
          rintro e w5 ⟨rfl, h5⟩
          have H5 := hidden h5
          clear cd h5
          go_wp2_with fail
          exact ⟨rfl, Or.inr ⟨5, j4, rfl, H5.out.x, HO.out⟩⟩
      | false =>
        have ct := take_no HR2.out _ hse
        rw [see_2 HR2.out] at hse
        have HN3 := hidden (num2_no HN2.out (fun q => by simpa [q] using hse))
        clear hse HN2 HR2
        go_wp2_with fail
        refine ct.mono ?_
        rintro e w3 ⟨rfl, h3⟩
        have HR3 := hidden h3
        have HI3 := HI2
        clear ct h3
        go_wp2_with fail
        have ct := token_any HR3.out 5 i (by decide) (by have := HI3.out; omega) (by have := Hl.out; have := HI3.out; omega)
        have HV := hidden (num3_end HN3.out HR3.out.hi)
        clear HN3 HR3
        go_wp2_with fail
        refine ct.mono ?_
        rintro e w9 ⟨rfl, j9, hk9, h9⟩
        have HK9 := hidden hk9
        have H9 := hidden h9
        clear ct hk9 h9
        go_wp2_with fail
        go_end0
        refine Or.inl ⟨rfl, j9, _, ?_, HK9.out.2.2.2, H9.out, b_skip (by decide) HV.out HK9.out⟩
        have := HK9.out.1; have := HI3.out; omega
  | false =>
    have ct := take_no h1 _ hsz
    rw [see_1 h1] at hsz
    have H48' : Hid (j1 < n → f j1 ≠ 48) := fun q => by simpa [q] using hsz
    clear hsz h1
    go_wp2_with fail
    refine ct.mono ?_
    rintro e w2 ⟨rfl, h2⟩
    have HR1 := hidden h2
    clear ct h2
    go_wp2_with fail
    by_cases hd : j1 < n ∧ isD (f j1) = true
    · have cd := digits_yes HR1.out hd.1 hd.2
      have Hd := hidden hd
      clear HR1 hd
      go_wp2_with fail
      refine cd.mono ?_
      rintro e w5 ⟨rfl, jd, hjd, hjn, hall, hno, h5⟩
      have H5 := hidden h5
      have H48 : Hid (f j1 ≠ 48) := H48'.out Hd.out.1
      clear H48'
      have HN1 := hidden (ns_digits HN.out Hd.out.1 H48.out hjd hjn hall hno)
      have HR1 := H5
      have HI1 : Hid (i < jd) := by have := Hi1.out; unfold Hid; omega
      clear cd Hd hjd hjn hall hno h5 H5 HN Hi1 H48
      generalize jd = jb at *
      go_wp2_with fail
      cases hsp : see f n jb ⟨#[46]⟩ with
      | true =>
        have ct := take_yes HR1.out _ hsp
        rw [see_1 HR1.out] at hsp
        simp at hsp
        have HP := hidden (num1_pt HN1.out hsp.1 hsp.2)
        clear hsp HN1 HR1
        go_wp2_with fail
        refine ct.mono ?_
        rintro e w3 ⟨rfl, h3⟩
        have HR4 := hidden h3
        clear ct h3
        go_wp2_with fail
        by_cases hd : (jb + 1) < n ∧ isD (f (jb + 1)) = true
        · have cd := digits_yes HR4.out hd.1 hd.2
          have Hd := hidden hd
          clear HR4 hd
          go_wp2_with fail
          refine cd.mono ?_
          rintro e w5 ⟨rfl, jd, hjd, hjn, hall, hno, h5⟩
          have H5 := hidden h5
          have HN2 := hidden (pt_digits HP.out Hd.out.1 hjd hjn hall hno)
          have HR2 := H5
          have HI2 : Hid (i < jd) := by have := HI1.out; unfold Hid; omega
          clear cd Hd hjd hjn hall hno h5 H5 HP HI1
          generalize jd = j2 at *
          go_wp2_with fail
          cases hse : see f n j2 ⟨#[101, 69]⟩ with
          | true =>
            have ct := take_yes HR2.out _ hse
            rw [see_2 HR2.out] at hse
            simp at hse
            have HE := hidden (num2_e HN2.out hse.1 hse.2)
            clear hse HN2 HR2
            go_wp2_with fail
            refine ct.mono ?_
            rintro e w3 ⟨rfl, h3⟩
            have cs := take_b h3 ⟨#[43, 45]⟩
            have Hs3 := hidden (see_2 h3 43 45)
            clear ct h3
            go_wp2_with fail
            refine cs.mono ?_
            rintro e w4 ⟨b4, rfl, hb4, h4⟩
            have HX : Hid (ExP f n o S T i (if b4 then j2 + 1 + 1 else j2 + 1)) := by
              rw [Hs3.out] at hb4
              cases b4 with
              | true =>
                simp at hb4
                exact ⟨15, Or.inr rfl, n_sign HE.out hb4.1 (by simpa using hb4.2), fun _ e => by cases e⟩
              | false =>
                simp at hb4
                exact ⟨14, Or.inl rfl, HE.out, fun q _ => hb4 q⟩
            have HI4 : Hid (j2 ≤ (if b4 then j2 + 1 + 1 else j2 + 1)) := by unfold Hid; split <;> omega
            have HR4 := hidden h4
            clear cs hb4 h4 Hs3 HE
            generalize (if b4 then j2 + 1 + 1 else j2 + 1) = j4 at *
            by_cases hd : j4 < n ∧ isD (f j4) = true
            · have cd := digits_yes HR4.out hd.1 hd.2
              have Hd := hidden hd
              clear HR4 hd
              go_wp2_with fail
              refine cd.mono ?_
              rintro e w5 ⟨rfl, jd, hjd, hjn, hall, hno, h5⟩
              have H5 := hidden h5
              have HN3 := hidden (ex_digits HX.out Hd.out.1 hjd hjn hall hno)
              have HR3 := H5
              have HI3 : Hid (i < jd) := by have := HI2.out; have := HI4.out; unfold Hid; omega
              clear cd Hd hjd hjn hall hno h5 H5 HX HI4
              go_wp2_with fail
              have ct := token_any HR3.out 5 i (by decide) (by have := HI3.out; omega) (by have := Hl.out; have := HI3.out; omega)
              have HV := hidden (num3_end HN3.out HR3.out.hi)
              clear HN3 HR3
              go_wp2_with fail
              refine ct.mono ?_
              rintro e w9 ⟨rfl, j9, hk9, h9⟩
              have HK9 := hidden hk9
              have H9 := hidden h9
              clear ct hk9 h9
              go_wp2_with fail
              go_end0
              refine Or.inl ⟨rfl, j9, _, ?_, HK9.out.2.2.2, H9.out, b_skip (by decide) HV.out HK9.out⟩
              have := HK9.out.1; have := HI3.out; omega
            · have cd := digits_no HR4.out (fun q => by cases hx : isD (f j4) with | false => rfl | true => exact absurd ⟨q, hx⟩ hd)
              have HO : Hid (o = ([], j4, 5)) := ex_bad HX.out HR4.out.hi (fun q => by cases hx : isD (f j4) with | false => rfl | true => exact absurd ⟨q, hx⟩ hd)
              clear hd
              go_wp2_with fail
              refine cd.mono ?_
              rintro e w5 ⟨rfl, h5⟩
              have H5 := hidden h5
              clear cd h5
              go_wp2_with fail
              exact ⟨rfl, Or.inr ⟨5, j4, rfl, H5.out.x, HO.out⟩⟩
          | false =>
            have ct := take_no HR2.out _ hse
            rw [see_2 HR2.out] at hse
            have HN3 := hidden (num2_no HN2.out (fun q => by simpa [q] using hse))
            clear hse HN2 HR2
            go_wp2_with fail
            refine ct.mono ?_
            rintro e w3 ⟨rfl, h3⟩
            have HR3 := hidden h3
            have HI3 := HI2
            clear ct h3
            go_wp2_with fail
            have ct := token_any HR3.out 5 i (by decide) (by have := HI3.out; omega) (by have := Hl.out; have := HI3.out; omega)
            have HV := hidden (num3_end HN3.out HR3.out.hi)
            clear HN3 HR3
            go_wp2_with fail
            refine ct.mono ?_
            rintro e w9 ⟨rfl, j9, hk9, h9⟩
            have HK9 := hidden hk9
            have H9 := hidden h9
            clear ct hk9 h9
            go_wp2_with fail
            go_end0
            refine Or.inl ⟨rfl, j9, _, ?_, HK9.out.2.2.2, H9.out, b_skip (by decide) HV.out HK9.out⟩
            have := HK9.out.1; have := HI3.out; omega
        · have cd := digits_no HR4.out (fun q => by cases hx : isD (f (jb + 1)) with | false => rfl | true => exact absurd ⟨q, hx⟩ hd)
          have HO : Hid (o = ([], (jb + 1), 5)) := cur_bad (Or.inl rfl) HP.out HR4.out.hi (fun q => by cases hx : isD (f (jb + 1)) with | false => rfl | true => exact absurd ⟨q, hx⟩ hd) (fun _ e => by cases e)
          clear hd
          go_wp2_with fail
          refine cd.mono ?_
          rintro e w5 ⟨rfl, h5⟩
          have H5 := hidden h5
          clear cd h5
          go_wp2_with fail
          exact ⟨rfl, Or.inr ⟨5, (jb + 1), rfl, H5.out.x, HO.out⟩⟩
      | false =>
        have ct := take_no HR1.out _ hsp
        rw [see_1 HR1.out] at hsp
        have HN2 := hidden (num1_no HN1.out (fun q => by simpa [q] using hsp))
        clear hsp HN1 HR1
        go_wp2_with fail
        refine ct.mono ?_
        rintro e w3 ⟨rfl, h3⟩
        have HR2 := hidden h3
        have HI2 := HI1
        clear ct h3 HI1
        generalize jb = j2 at *
        go_wp2_with fail
        cases hse : see f n j2 ⟨#[101, 69]⟩ with
        | true =>
          have ct := take_yes HR2.out _ hse
          rw [see_2 HR2.out] at hse
          simp at hse
          have HE := hidden (num2_e HN2.out hse.1 hse.2)
          clear hse HN2 HR2
          go_wp2_with fail
          refine ct.mono ?_
          rintro e w3 ⟨rfl, h3⟩
          have cs := take_b h3 ⟨#[43, 45]⟩
          have Hs3 := hidden (see_2 h3 43 45)
          clear ct h3
          go_wp2_with fail
          refine cs.mono ?_
          rintro e w4 ⟨b4, rfl, hb4, h4⟩
          have HX : Hid (ExP f n o S T i (if b4 then j2 + 1 + 1 else j2 + 1)) := by
            rw [Hs3.out] at hb4
            cases b4 with
            | true =>
              simp at hb4
              exact ⟨15, Or.inr rfl, n_sign HE.out hb4.1 (by simpa using hb4.2), fun _ e => by cases e⟩
            | false =>
              simp at hb4
              exact ⟨14, Or.inl rfl, HE.out, fun q _ => hb4 q⟩
          have HI4 : Hid (j2 ≤ (if b4 then j2 + 1 + 1 else j2 + 1)) := by unfold Hid; split <;> omega
          have HR4 := hidden h4
          clear cs hb4 h4 Hs3 HE
          generalize (if b4 then j2 + 1 + 1 else j2 + 1) = j4 at *
          by_cases hd : j4 < n ∧ isD (f j4) = true
          · have cd := digits_yes HR4.out hd.1 hd.2
            have Hd := hidden hd
            clear HR4 hd
            go_wp2_with fail
            refine cd.mono ?_
            rintro e w5 ⟨rfl, jd, hjd, hjn, hall, hno, h5⟩
            have H5 := hidden h5
            have HN3 := hidden (ex_digits HX.out Hd.out.1 hjd hjn hall hno)
            have HR3 := H5
            have HI3 : Hid (i < jd) := by have := HI2.out; have := HI4.out; unfold Hid; omega
            clear cd Hd hjd hjn hall hno h5 H5 HX HI4
            go_wp2_with fail
            have ct := token_any HR3.out 5 i (by decide) (by have := HI3.out; omega) (by have := Hl.out; have := HI3.out; omega)
            have HV := hidden (num3_end HN3.out HR3.out.hi)
            clear HN3 HR3
            go_wp2_with fail
            refine ct.mono ?_
            rintro e w9 ⟨rfl, j9, hk9, h9⟩
            have HK9 := hidden hk9
            have H9 := hidden h9
            clear ct hk9 h9
            go_wp2_with fail
            go_end0
            refine Or.inl ⟨rfl, j9, _, ?_, HK9.out.2.2.2, H9.out, b_skip (by decide) HV.out HK9.out⟩
            have := HK9.out.1; have := HI3.out; omega
          · have cd := digits_no HR4.out (fun q => by cases hx : isD (f j4) with | false => rfl | true => exact absurd ⟨q, hx⟩ hd)
            have HO : Hid (o = ([], j4, 5)) := ex_bad HX.out HR4.out.hi (fun q => by cases hx : isD (f j4) with | false => rfl | true => exact absurd ⟨q, hx⟩ hd)
            clear hd
            go_wp2_with fail
            refine cd.mono ?_
            rintro e w5 ⟨rfl, h5⟩
            have H5 := hidden h5
            clear cd h5
            go_wp2_with fail
            exact ⟨rfl, Or.inr ⟨5, j4, rfl, H5.out.x, HO.out⟩⟩
        | false =>
          have ct := take_no HR2.out _ hse
          rw [see_2 HR2.out] at hse
          have HN3 := hidden (num2_no HN2.out (fun q => by simpa [q] using hse))
          clear hse HN2 HR2
          go_wp2_with fail
          refine ct.mono ?_
          rintro e w3 ⟨rfl, h3⟩
          have HR3 := hidden h3
          have HI3 := HI2
          clear ct h3
          go_wp2_with fail
          have ct := token_any HR3.out 5 i (by decide) (by have := HI3.out; omega) (by have := Hl.out; have := HI3.out; omega)
          have HV := hidden (num3_end HN3.out HR3.out.hi)
          clear HN3 HR3
          go_wp2_with fail
          refine ct.mono ?_
          rintro e w9 ⟨rfl, j9, hk9, h9⟩
          have HK9 := hidden hk9
          have H9 := hidden h9
          clear ct hk9 h9
          go_wp2_with fail
          go_end0
          refine Or.inl ⟨rfl, j9, _, ?_, HK9.out.2.2.2, H9.out, b_skip (by decide) HV.out HK9.out⟩
          have := HK9.out.1; have := HI3.out; omega
    · have cd := digits_no HR1.out (fun q => by cases hx : isD (f j1) with | false => rfl | true => exact absurd ⟨q, hx⟩ hd)
      have HO : Hid (o = ([], j1, 5)) := ns_bad HN.out HR1.out.hi (fun q => by cases hx : isD (f j1) with | false => rfl | true => exact absurd ⟨q, hx⟩ hd)
      clear hd
      go_wp2_with fail
      refine cd.mono ?_
      rintro e w5 ⟨rfl, h5⟩
      have H5 := hidden h5
      clear cd h5
      go_wp2_with fail
      exact ⟨rfl, Or.inr ⟨5, j1, rfl, H5.out.x, HO.out⟩⟩
end Go.Proofs.PlatenJson

/- What value, list and member of the reader come to. -/
namespace Go.Proofs.PlatenJson
open Go Go.RowKit
set_option linter.unusedVariables false
set_option maxRecDepth 100000

/-- A value can be read at byte i; an element; a name with its value. -/
def El (B R n : Nat) (w0 : World) (v : Value) (f : Nat → Nat) (F s0 s1 c : Nat) (i : Nat) : Prop :=
  ∀ (w : World) (d : Nat) (T : List Tk) (o : Res) (S : List Nat) (st : Nat), Rd B R n w0 v f w i d T → d = S.length → (st = s0 ∨ st = s1) → Cv f n o st S T false i → (i < n → isB (f i) = false ∧ (st = s0 → f i ≠ c)) →
    Calls Try.prog F #[.pointer (some ⟨R, 0, none⟩)] w (Done B R n w0 v f o d i 5 S)
variable {B R n : Nat} {w0 : World} {v : Value} {f : Nat → Nat} {w : World} {i d : Nat} {T : List Tk}

set_option maxHeartbeats 4000000 in
theorem list_sq {o : Res} {S : List Nat} {st : Nat} (h : Rd B R n w0 v f w i d T) (hd : d = S.length) (hst : st = 0 ∨ st = 1) (hi : i < n) (hb : f i = 91) (hm : Cv f n o st S T false i) (hE : ∀ i', i < i' → El B R n w0 v f 38 1 0 93 i') :
    Calls Try.prog 60 #[.pointer (some ⟨R, 0, none⟩), .string ⟨#[93]⟩, .func (.func 38) #[.pointer (some ⟨R, 0, none⟩)] #[]] w (Done B R n w0 v f o d i 5 S) := by
  obtain ⟨tv, h⟩ := h
  have c2 := h.c2
  have hd5 := h.hd
  have HE := hidden hE
  clear hE
  by_cases h5 : d = 512
  · have hz : ((d : Int) == 512) = true := by simp; omega
    have HO := hidden (l_deep hm hst hi (by omega) (by omega))
    have HR := hidden h
    clear h hm
    go_enter Try.func60, Try.ntmps60
    go_wp2_with fail
    exact ⟨rfl, Or.inr ⟨6, i, rfl, ⟨_, _, _, HR.out⟩, HO.out⟩⟩
  · have hz : ((d : Int) == 512) = false := by simp; omega
    have hd51 : d < 512 := by omega
    have fr := h.free 2
    have h2 : RS B R n w0 v f (w.setCell ⟨R, 2, none⟩ (.int .i64 ((d : Int) + 1))) tv i (d + 1) T := by
      have := h.deep (d' := d + 1) (by omega)
      simpa using this
    have cs := sign_yes ⟨tv, h2⟩ 1 (by decide) ⟨#[91, 123]⟩ (by rw [see_2 ⟨tv, h2⟩]; simp [hi, hb])
    have HM := hidden (l_open hm hst hi (by omega) (by omega))
    rw [hb] at HM
    have Hd := hidden hd
    clear h h2 hm hb hd hst
    go_enter Try.func60, Try.ntmps60
    go_wp2_with fail
    refine cs.mono ?_
    rintro e w2 ⟨rfl, j, hk, h2⟩
    have HC := hidden (b_skip (by decide) HM.out hk)
    have Hk := hidden hk
    have hij : i < j := by have := hk.1; omega
    have hr2 := h2
    have cse := sees_any h2 ⟨#[93]⟩
    clear cs hk h2 HM c2 fr hz
    cases hcl : see f n j ⟨#[93]⟩ with
    | true =>
      rw [hcl] at cse
      have HS := hidden hcl
      rw [see_1 hr2] at hcl
      simp at hcl
      have HCL := hidden (l_close HC.out (by decide) hcl.1 (by have := hcl.2; omega))
      clear hr2 hcl HC
      go_wp2_with fail
      refine cse.mono ?_
      rintro e w3 ⟨rfl, h3⟩
      have HR := hidden h3
      have hcl : see f n j ⟨#[93]⟩ = true := HS.out
      clear cse h3 HS
      generalize hT8 : T ++ [(1, i, 1)] = T8 at *
      clear hT8
      go_wp2_with fail
      have cs := sign_yes HR.out 2 (by decide) _ hcl
      clear HR hcl
      go_wp2_with fail
      refine cs.mono ?_
      rintro e w8 ⟨rfl, j8, hk8, tv8, h8⟩
      have c28 : w8.cell? ⟨R, 2, none⟩ = some (.int .i64 ((d : Int) + 1)) := by have := h8.c2; rw [this]; congr
      have fr8 := h8.free 2
      have H8 : Hid (RS B R n w0 v f (w8.setCell ⟨R, 2, none⟩ (.int .i64 (d : Nat))) tv8 j8 d (T8 ++ [(2, j, 1)])) := h8.deep (d' := d) (by omega)
      have HK8 := hidden hk8
      have HC8 := hidden (b_skip (by decide) HCL.out hk8)
      clear cs hk8 h8 HCL
      go_wp2_with fail
      go_end0
      refine Or.inl ⟨rfl, j8, _, ?_, HK8.out.2.2.2, ⟨tv8, ?_⟩, HC8.out⟩
      · have := HK8.out.1; omega
      · have := H8.out; simpa using this
    | false =>
      rw [hcl] at cse
      rw [see_1 hr2] at hcl
      have Hcl : Hid (j < n → f j ≠ 93) := fun q => by simpa [q] using hcl
      clear hr2 hcl
      go_wp2_with fail
      refine cse.mono ?_
      rintro e w3 ⟨rfl, h3⟩
      have ce := HE.out j hij w3 (d + 1) _ o (91 :: S) 1 h3 (by rw [List.length_cons, Hd.out]) (Or.inl rfl) HC.out (fun q => ⟨Hk.out.2.2.2 q, fun _ => Hcl.out q⟩)
      clear cse h3 HC Hcl Hk
      go_wp2_with fail
      refine ce.mono ?_
      clear ce
      rintro e w4 hD
      rcases hD with ⟨rfl, j4, T4, hj4, hn4, h4, hm4⟩ | ⟨x, j4, rfl, hx, ho⟩
      · have HM4 := hidden hm4
        have HN4 := hidden hn4
        have H4 := hidden h4
        clear hm4 hn4 h4
        go_wp2_with fail
        go_loopw [] (fun wr => ∃ j T, i < j ∧ (j < n → isB (f j) = false) ∧ Rd B R n w0 v f wr j (d + 1) T ∧ Cv f n o 5 (91 :: S) T false j) (fun wr => n - atOf R wr)
        case atStart => exact ⟨j4, T4, by omega, HN4.out, H4.out, HM4.out⟩
        case round =>
          clear hj4 HM4 HN4 H4 hij
          obtain ⟨j, T8, hij, hnb, hr, hm⟩ := hrel
          have Hnb := hidden hnb
          have HM := hidden hm
          have Hat := hidden hr.at
          have cse := sees_any hr ⟨#[44]⟩
          have hr2 := hr
          clear hnb hm hr
          cases hcm : see f n j ⟨#[44]⟩ with
          | true =>
            rw [hcm] at cse
            have HS := hidden hcm
            rw [see_1 hr2] at hcm
            simp at hcm
            have HM2 := hidden (l_comma HM.out hcm.1 hcm.2)
            have Hjn := hidden hcm.1
            clear hr2 hcm HM
            go_wp2_with fail
            refine cse.mono ?_
            rintro e w5 ⟨rfl, h5⟩
            have cs := sign_yes h5 3 (by decide) _ HS.out
            clear cse h5 HS
            go_wp2_with fail
            refine cs.mono ?_
            rintro e w6 ⟨rfl, j6, hk6, h6⟩
            have HC6 := hidden (b_skip (by decide) HM2.out hk6)
            have hjj : i < j6 := by have := hk6.1; omega
            have Hjj : Hid (j < j6) := by have := hk6.1; unfold Hid; omega
            have ce := HE.out j6 hjj w6 (d + 1) _ o (91 :: S) 0 h6 (by rw [List.length_cons, Hd.out]) (Or.inr rfl) HC6.out (fun q => ⟨hk6.2.2.2 q, fun e => by cases e⟩)
            clear cs hk6 h6 HC6 HM2
            go_wp2_with fail
            refine ce.mono ?_
            clear ce
            rintro e w7 hD
            rcases hD with ⟨rfl, j7, T7, hj7, hn7, h7, hm7⟩ | ⟨x, j7, rfl, hx, ho⟩
            · have HM7 := hidden hm7
              have HN7 := hidden hn7
              have H7 := hidden h7
              have hi7 : i < j7 := by omega
              have Hi7 : Hid (j < j7) := by have := Hjj.out; unfold Hid; omega
              clear hm7 hn7 h7 hj7 hjj
              go_wp2_with fail
              go_roundw
              case rel => exact ⟨j7, T7, hi7, HN7.out, H7.out, HM7.out⟩
              case measure => rw [H7.out.at, Hat.out]; have := Hjn.out; have := Hi7.out; omega
            · have HX := hidden hx
              have HO := hidden ho
              clear hx ho
              go_wp2_with fail
              exact ⟨rfl, Or.inr ⟨x, j7, rfl, HX.out, HO.out⟩⟩
          | false =>
            rw [hcm] at cse
            rw [see_1 hr2] at hcm
            have Hcm : Hid (j < n → f j ≠ 44) := fun q => by simpa [q] using hcm
            clear hcm
            cases hcl : see f n j ⟨#[93]⟩ with
            | true =>
              have HS := hidden hcl
              rw [see_1 hr2] at hcl
              simp at hcl
              have HCL := hidden (l_close HM.out (by decide) hcl.1 (by have := hcl.2; omega))
              clear hr2 hcl HM Hcm
              go_wp2_with fail
              refine cse.mono ?_
              rintro e w5 ⟨rfl, h5⟩
              have HR := hidden h5
              have hcl : see f n j ⟨#[93]⟩ = true := HS.out
              clear cse h5 HS
              go_wp2_with fail
              have cs := sign_yes HR.out 2 (by decide) _ hcl
              clear HR hcl
              go_wp2_with fail
              refine cs.mono ?_
              rintro e w8 ⟨rfl, j8, hk8, tv8, h8⟩
              have c28 : w8.cell? ⟨R, 2, none⟩ = some (.int .i64 ((d : Int) + 1)) := by have := h8.c2; rw [this]; congr
              have fr8 := h8.free 2
              have H8 : Hid (RS B R n w0 v f (w8.setCell ⟨R, 2, none⟩ (.int .i64 (d : Nat))) tv8 j8 d (T8 ++ [(2, j, 1)])) := h8.deep (d' := d) (by omega)
              have HK8 := hidden hk8
              have HC8 := hidden (b_skip (by decide) HCL.out hk8)
              clear cs hk8 h8 HCL
              go_wp2_with fail
              go_end0
              refine Or.inl ⟨rfl, j8, _, ?_, HK8.out.2.2.2, ⟨tv8, ?_⟩, HC8.out⟩
              · have := HK8.out.1; omega
              · have := H8.out; simpa using this
            | false =>
              have HS := hidden hcl
              rw [see_1 hr2] at hcl
              have Hcl : Hid (j < n → f j ≠ 93) := fun q => by simpa [q] using hcl
              have HO : Hid (o = ([], j, 5)) := by
                by_cases q : j < n
                · exact l_bad HM.out q (Hnb.out q) (Hcm.out q) (by have := Hcl.out q; omega)
                · have q2 := hr2.hi
                  obtain rfl : j = n := by omega
                  exact l_end HM.out
              clear hr2 hcl HM Hcm Hcl
              go_wp2_with fail
              refine cse.mono ?_
              rintro e w5 ⟨rfl, h5⟩
              have cs := sign_no h5 2 _ HS.out
              clear cse h5 HS
              go_wp2_with fail
              refine cs.mono ?_
              rintro e w6 ⟨rfl, h6⟩
              have H6 := hidden h6
              clear cs h6
              go_wp2_with fail
              exact ⟨rfl, Or.inr ⟨5, j, rfl, H6.out.x, HO.out⟩⟩
      · have HX := hidden hx
        have HO := hidden ho
        clear hx ho
        go_wp2_with fail
        exact ⟨rfl, Or.inr ⟨x, j4, rfl, HX.out, HO.out⟩⟩
set_option maxHeartbeats 4000000 in
theorem list_br {o : Res} {S : List Nat} {st : Nat} (h : Rd B R n w0 v f w i d T) (hd : d = S.length) (hst : st = 0 ∨ st = 1) (hi : i < n) (hb : f i = 123) (hm : Cv f n o st S T false i) (hE : ∀ i', i < i' → El B R n w0 v f 61 2 3 125 i') :
    Calls Try.prog 60 #[.pointer (some ⟨R, 0, none⟩), .string ⟨#[125]⟩, .func (.func 61) #[.pointer (some ⟨R, 0, none⟩)] #[]] w (Done B R n w0 v f o d i 5 S) := by
  obtain ⟨tv, h⟩ := h
  have c2 := h.c2
  have hd5 := h.hd
  have HE := hidden hE
  clear hE
  by_cases h5 : d = 512
  · have hz : ((d : Int) == 512) = true := by simp; omega
    have HO := hidden (l_deep hm hst hi (by omega) (by omega))
    have HR := hidden h
    clear h hm
    go_enter Try.func60, Try.ntmps60
    go_wp2_with fail
    exact ⟨rfl, Or.inr ⟨6, i, rfl, ⟨_, _, _, HR.out⟩, HO.out⟩⟩
  · have hz : ((d : Int) == 512) = false := by simp; omega
    have hd51 : d < 512 := by omega
    have fr := h.free 2
    have h2 : RS B R n w0 v f (w.setCell ⟨R, 2, none⟩ (.int .i64 ((d : Int) + 1))) tv i (d + 1) T := by
      have := h.deep (d' := d + 1) (by omega)
      simpa using this
    have cs := sign_yes ⟨tv, h2⟩ 1 (by decide) ⟨#[91, 123]⟩ (by rw [see_2 ⟨tv, h2⟩]; simp [hi, hb])
    have HM := hidden (l_open hm hst hi (by omega) (by omega))
    rw [hb] at HM
    have Hd := hidden hd
    clear h h2 hm hb hd hst
    go_enter Try.func60, Try.ntmps60
    go_wp2_with fail
    refine cs.mono ?_
    rintro e w2 ⟨rfl, j, hk, h2⟩
    have HC := hidden (b_skip (by decide) HM.out hk)
    have Hk := hidden hk
    have hij : i < j := by have := hk.1; omega
    have hr2 := h2
    have cse := sees_any h2 ⟨#[125]⟩
    clear cs hk h2 HM c2 fr hz
    cases hcl : see f n j ⟨#[125]⟩ with
    | true =>
      rw [hcl] at cse
      have HS := hidden hcl
      rw [see_1 hr2] at hcl
      simp at hcl
      have HCL := hidden (l_close HC.out (by decide) hcl.1 (by have := hcl.2; omega))
      clear hr2 hcl HC
      go_wp2_with fail
      refine cse.mono ?_
      rintro e w3 ⟨rfl, h3⟩
      have HR := hidden h3
      have hcl : see f n j ⟨#[125]⟩ = true := HS.out
      clear cse h3 HS
      generalize hT8 : T ++ [(1, i, 1)] = T8 at *
      clear hT8
      go_wp2_with fail
      have cs := sign_yes HR.out 2 (by decide) _ hcl
      clear HR hcl
      go_wp2_with fail
      refine cs.mono ?_
      rintro e w8 ⟨rfl, j8, hk8, tv8, h8⟩
      have c28 : w8.cell? ⟨R, 2, none⟩ = some (.int .i64 ((d : Int) + 1)) := by have := h8.c2; rw [this]; congr
      have fr8 := h8.free 2
      have H8 : Hid (RS B R n w0 v f (w8.setCell ⟨R, 2, none⟩ (.int .i64 (d : Nat))) tv8 j8 d (T8 ++ [(2, j, 1)])) := h8.deep (d' := d) (by omega)
      have HK8 := hidden hk8
      have HC8 := hidden (b_skip (by decide) HCL.out hk8)
      clear cs hk8 h8 HCL
      go_wp2_with fail
      go_end0
      refine Or.inl ⟨rfl, j8, _, ?_, HK8.out.2.2.2, ⟨tv8, ?_⟩, HC8.out⟩
      · have := HK8.out.1; omega
      · have := H8.out; simpa using this
    | false =>
      rw [hcl] at cse
      rw [see_1 hr2] at hcl
      have Hcl : Hid (j < n → f j ≠ 125) := fun q => by simpa [q] using hcl
      clear hr2 hcl
      go_wp2_with fail
      refine cse.mono ?_
      rintro e w3 ⟨rfl, h3⟩
      have ce := HE.out j hij w3 (d + 1) _ o (123 :: S) 2 h3 (by rw [List.length_cons, Hd.out]) (Or.inl rfl) HC.out (fun q => ⟨Hk.out.2.2.2 q, fun _ => Hcl.out q⟩)
      clear cse h3 HC Hcl Hk
      go_wp2_with fail
      refine ce.mono ?_
      clear ce
      rintro e w4 hD
      rcases hD with ⟨rfl, j4, T4, hj4, hn4, h4, hm4⟩ | ⟨x, j4, rfl, hx, ho⟩
      · have HM4 := hidden hm4
        have HN4 := hidden hn4
        have H4 := hidden h4
        clear hm4 hn4 h4
        go_wp2_with fail
        go_loopw [] (fun wr => ∃ j T, i < j ∧ (j < n → isB (f j) = false) ∧ Rd B R n w0 v f wr j (d + 1) T ∧ Cv f n o 5 (123 :: S) T false j) (fun wr => n - atOf R wr)
        case atStart => exact ⟨j4, T4, by omega, HN4.out, H4.out, HM4.out⟩
        case round =>
          clear hj4 HM4 HN4 H4 hij
          obtain ⟨j, T8, hij, hnb, hr, hm⟩ := hrel
          have Hnb := hidden hnb
          have HM := hidden hm
          have Hat := hidden hr.at
          have cse := sees_any hr ⟨#[44]⟩
          have hr2 := hr
          clear hnb hm hr
          cases hcm : see f n j ⟨#[44]⟩ with
          | true =>
            rw [hcm] at cse
            have HS := hidden hcm
            rw [see_1 hr2] at hcm
            simp at hcm
            have HM2 := hidden (l_comma HM.out hcm.1 hcm.2)
            have Hjn := hidden hcm.1
            clear hr2 hcm HM
            go_wp2_with fail
            refine cse.mono ?_
            rintro e w5 ⟨rfl, h5⟩
            have cs := sign_yes h5 3 (by decide) _ HS.out
            clear cse h5 HS
            go_wp2_with fail
            refine cs.mono ?_
            rintro e w6 ⟨rfl, j6, hk6, h6⟩
            have HC6 := hidden (b_skip (by decide) HM2.out hk6)
            have hjj : i < j6 := by have := hk6.1; omega
            have Hjj : Hid (j < j6) := by have := hk6.1; unfold Hid; omega
            have ce := HE.out j6 hjj w6 (d + 1) _ o (123 :: S) 3 h6 (by rw [List.length_cons, Hd.out]) (Or.inr rfl) HC6.out (fun q => ⟨hk6.2.2.2 q, fun e => by cases e⟩)
            clear cs hk6 h6 HC6 HM2
            go_wp2_with fail
            refine ce.mono ?_
            clear ce
            rintro e w7 hD
            rcases hD with ⟨rfl, j7, T7, hj7, hn7, h7, hm7⟩ | ⟨x, j7, rfl, hx, ho⟩
            · have HM7 := hidden hm7
              have HN7 := hidden hn7
              have H7 := hidden h7
              have hi7 : i < j7 := by omega
              have Hi7 : Hid (j < j7) := by have := Hjj.out; unfold Hid; omega
              clear hm7 hn7 h7 hj7 hjj
              go_wp2_with fail
              go_roundw
              case rel => exact ⟨j7, T7, hi7, HN7.out, H7.out, HM7.out⟩
              case measure => rw [H7.out.at, Hat.out]; have := Hjn.out; have := Hi7.out; omega
            · have HX := hidden hx
              have HO := hidden ho
              clear hx ho
              go_wp2_with fail
              exact ⟨rfl, Or.inr ⟨x, j7, rfl, HX.out, HO.out⟩⟩
          | false =>
            rw [hcm] at cse
            rw [see_1 hr2] at hcm
            have Hcm : Hid (j < n → f j ≠ 44) := fun q => by simpa [q] using hcm
            clear hcm
            cases hcl : see f n j ⟨#[125]⟩ with
            | true =>
              have HS := hidden hcl
              rw [see_1 hr2] at hcl
              simp at hcl
              have HCL := hidden (l_close HM.out (by decide) hcl.1 (by have := hcl.2; omega))
              clear hr2 hcl HM Hcm
              go_wp2_with fail
              refine cse.mono ?_
              rintro e w5 ⟨rfl, h5⟩
              have HR := hidden h5
              have hcl : see f n j ⟨#[125]⟩ = true := HS.out
              clear cse h5 HS
              go_wp2_with fail
              have cs := sign_yes HR.out 2 (by decide) _ hcl
              clear HR hcl
              go_wp2_with fail
              refine cs.mono ?_
              rintro e w8 ⟨rfl, j8, hk8, tv8, h8⟩
              have c28 : w8.cell? ⟨R, 2, none⟩ = some (.int .i64 ((d : Int) + 1)) := by have := h8.c2; rw [this]; congr
              have fr8 := h8.free 2
              have H8 : Hid (RS B R n w0 v f (w8.setCell ⟨R, 2, none⟩ (.int .i64 (d : Nat))) tv8 j8 d (T8 ++ [(2, j, 1)])) := h8.deep (d' := d) (by omega)
              have HK8 := hidden hk8
              have HC8 := hidden (b_skip (by decide) HCL.out hk8)
              clear cs hk8 h8 HCL
              go_wp2_with fail
              go_end0
              refine Or.inl ⟨rfl, j8, _, ?_, HK8.out.2.2.2, ⟨tv8, ?_⟩, HC8.out⟩
              · have := HK8.out.1; omega
              · have := H8.out; simpa using this
            | false =>
              have HS := hidden hcl
              rw [see_1 hr2] at hcl
              have Hcl : Hid (j < n → f j ≠ 125) := fun q => by simpa [q] using hcl
              have HO : Hid (o = ([], j, 5)) := by
                by_cases q : j < n
                · exact l_bad HM.out q (Hnb.out q) (Hcm.out q) (by have := Hcl.out q; omega)
                · have q2 := hr2.hi
                  obtain rfl : j = n := by omega
                  exact l_end HM.out
              clear hr2 hcl HM Hcm Hcl
              go_wp2_with fail
              refine cse.mono ?_
              rintro e w5 ⟨rfl, h5⟩
              have cs := sign_no h5 2 _ HS.out
              clear cse h5 HS
              go_wp2_with fail
              refine cs.mono ?_
              rintro e w6 ⟨rfl, h6⟩
              have H6 := hidden h6
              clear cs h6
              go_wp2_with fail
              exact ⟨rfl, Or.inr ⟨5, j, rfl, H6.out.x, HO.out⟩⟩
      · have HX := hidden hx
        have HO := hidden ho
        clear hx ho
        go_wp2_with fail
        exact ⟨rfl, Or.inr ⟨x, j4, rfl, HX.out, HO.out⟩⟩
end Go.Proofs.PlatenJson

/- What member and value of the reader come to: by the bytes that are left. -/
namespace Go.Proofs.PlatenJson
open Go Go.RowKit
set_option linter.unusedVariables false
set_option maxRecDepth 100000
variable {B R n : Nat} {w0 : World} {v : Value} {f : Nat → Nat} {w : World} {i d : Nat} {T : List Tk}

set_option maxHeartbeats 2000000 in
theorem member_any (hV : ∀ i', i < i' → El B R n w0 v f 38 1 0 93 i') : El B R n w0 v f 61 2 3 125 i := by
  intro w d T o S st h hd hst hm hb
  have cq := quoted_any (o := o) (S := S) (nm := true) (st := 4) rfl h (fun q e => t_name hm hst q e) (fun q => by
    by_cases hi : i < n
    · exact name_bad hm hst hi (hb hi).1 (q hi) (hb hi).2
    · have := h.hi
      obtain rfl : i = n := by omega
      exact v_end hm (by omega))
  have HV := hidden hV
  have Hd := hidden hd
  clear h hd hst hm hb hV
  go_enter Try.func61, Try.ntmps61
  go_wp2_with fail
  refine cq.mono ?_
  clear cq
  rintro e w1 hD
  rcases hD with ⟨rfl, j, T1, hj, hn, h1, hm1⟩ | ⟨x, j, rfl, hx, ho⟩
  · cases hs : see f n j ⟨#[58]⟩ with
    | true =>
      have cs := sign_yes h1 4 (by decide) _ hs
      rw [see_1 h1] at hs
      simp at hs
      have HM := hidden (c_colon hm1 hs.1 hs.2)
      clear hs h1 hm1 hn
      go_wp2_with fail
      refine cs.mono ?_
      rintro e w2 ⟨rfl, j2, hk, h2⟩
      have hj2 : i < j2 := by have := hk.1; omega
      have cv := HV.out j2 hj2 w2 d _ o S 0 h2 Hd.out (Or.inr rfl) (b_skip (by decide) HM.out hk) (fun q => ⟨hk.2.2.2 q, fun e => by cases e⟩)
      clear cs h2 hk HM
      go_wp2_with fail
      refine cv.mono ?_
      clear cv
      rintro e w3 hD
      rcases hD with ⟨rfl, j3, T3, hj3, hn3, h3, hm3⟩ | ⟨x, j3, rfl, hx, ho⟩
      · have HM3 := hidden hm3
        have HN3 := hidden hn3
        have H3 := hidden h3
        clear hm3 hn3 h3
        go_wp2_with fail
        go_end0
        exact Or.inl ⟨rfl, j3, T3, by omega, HN3.out, H3.out, HM3.out⟩
      · have HX := hidden hx
        have HO := hidden ho
        clear hx ho
        go_wp2_with fail
        exact ⟨rfl, Or.inr ⟨x, j3, rfl, HX.out, HO.out⟩⟩
    | false =>
      have cs := sign_no h1 4 _ hs
      rw [see_1 h1] at hs
      have HO : Hid (o = ([], j, 5)) := by
        by_cases q : j < n
        · exact c_bad hm1 q (hn q) (by simpa [q] using hs)
        · have := h1.hi
          obtain rfl : j = n := by omega
          exact v_end hm1 (by decide)
      clear hs h1 hm1 hn
      go_wp2_with fail
      refine cs.mono ?_
      rintro e w2 ⟨rfl, h2⟩
      have H2 := hidden h2
      clear cs h2
      go_wp2_with fail
      exact ⟨rfl, Or.inr ⟨5, j, rfl, H2.out.x, HO.out⟩⟩
  · have HX := hidden hx
    have HO := hidden ho
    clear hx ho
    go_wp2_with fail
    exact ⟨rfl, Or.inr ⟨x, j, rfl, HX.out, HO.out⟩⟩

/-- What a part of value's gives, value gives. -/
theorem wdp0 {o : Res} {S : List Nat} {a : Nat} {L : List Nat} (hi : i < n) (hc : f i = a) (h : CurW f n o L S T i (i + 1)) : WdP f n o S T i (a :: L) 0 := by
  unfold WdP
  rw [if_pos rfl]
  exact ⟨⟨hi, hc⟩, h⟩
set_option maxHeartbeats 4000000 in
theorem value_step (hV : ∀ i', i < i' → El B R n w0 v f 38 1 0 93 i') : El B R n w0 v f 38 1 0 93 i := by
  intro w d T o S st h hd hst0 hm hb
  have hst : st = 0 ∨ st = 1 := hst0.symm
  have ca := ahead_any h
  have HH := hidden h.hi
  have hfj : f i < 256 := h.hf i
  have hah : ahd f n i = if i = n then 0 else f i := rfl
  have hlt : ∀ c, ahd f n i = c → c ≠ 0 → i < n ∧ f i = c := fun c e h0 => by
    have := HH.out
    rw [hah] at e
    by_cases q : i = n
    · rw [if_pos q] at e; omega
    · rw [if_neg q] at e; exact ⟨by omega, e⟩
  have Hv := hidden hV
  have Hd := hidden hd
  have Hst := hidden hst
  have Hm := hidden hm
  have Hb := hidden hb
  have Hlt := hidden hlt
  have Hah := hidden hah
  clear h hd hst hst0 hm hb hV hlt hah
  by_cases q1 : ahd f n i = 91
  · rw [q1] at ca
    obtain ⟨hi, hc⟩ := Hlt.out 91 q1 (by decide)
    clear q1
    go_enter Try.func38, Try.ntmps38
    go_wp2_with fail
    refine ca.mono ?_
    rintro e w2 ⟨rfl, h2⟩
    have cl := list_sq h2 Hd.out Hst.out hi hc Hm.out Hv.out
    clear ca h2 hi hc
    go_wp2_with fail
    refine cl.mono ?_
    clear cl
    rintro e w3 hD
    rcases hD with ⟨rfl, hD⟩ | ⟨x, j, rfl, hD⟩
    · have HD := hidden hD
      clear hD
      go_wp2_with fail
      go_end0
      exact Or.inl ⟨rfl, HD.out⟩
    · have HD := hidden hD
      clear hD
      go_wp2_with fail
      exact ⟨rfl, Or.inr ⟨x, j, rfl, HD.out⟩⟩
  by_cases q2 : ahd f n i = 123
  · rw [q2] at ca
    obtain ⟨hi, hc⟩ := Hlt.out 123 q2 (by decide)
    clear q2
    go_enter Try.func38, Try.ntmps38
    go_wp2_with fail
    refine ca.mono ?_
    rintro e w2 ⟨rfl, h2⟩
    have cl := list_br h2 Hd.out Hst.out hi hc Hm.out (fun i' hi' => member_any (fun i2 h2 => Hv.out i2 (by omega)))
    clear ca h2 hi hc
    go_wp2_with fail
    refine cl.mono ?_
    clear cl
    rintro e w3 hD
    rcases hD with ⟨rfl, hD⟩ | ⟨x, j, rfl, hD⟩
    · have HD := hidden hD
      clear hD
      go_wp2_with fail
      go_end0
      exact Or.inl ⟨rfl, HD.out⟩
    · have HD := hidden hD
      clear hD
      go_wp2_with fail
      exact ⟨rfl, Or.inr ⟨x, j, rfl, HD.out⟩⟩
  by_cases q3 : ahd f n i = 34
  · rw [q3] at ca
    obtain ⟨hi, hc⟩ := Hlt.out 34 q3 (by decide)
    clear q3
    go_enter Try.func38, Try.ntmps38
    go_wp2_with fail
    refine ca.mono ?_
    rintro e w2 ⟨rfl, h2⟩
    have cl := quoted_any (o := o) (S := S) (nm := false) (st := 5) rfl h2 (fun q e => t_open Hm.out Hst.out q e) (fun q => absurd hc (q hi))
    clear ca h2 hi hc
    go_wp2_with fail
    refine cl.mono ?_
    clear cl
    rintro e w3 hD
    rcases hD with ⟨rfl, hD⟩ | ⟨x, j, rfl, hD⟩
    · have HD := hidden hD
      clear hD
      go_wp2_with fail
      go_end0
      exact Or.inl ⟨rfl, HD.out⟩
    · have HD := hidden hD
      clear hD
      go_wp2_with fail
      exact ⟨rfl, Or.inr ⟨x, j, rfl, HD.out⟩⟩
  by_cases q4 : ahd f n i = 116
  · rw [q4] at ca
    obtain ⟨hi, hc⟩ := Hlt.out 116 q4 (by decide)
    clear q4
    go_enter Try.func38, Try.ntmps38
    go_wp2_with fail
    refine ca.mono ?_
    rintro e w2 ⟨rfl, h2⟩
    have cl := word_any ⟨#[116, 114, 117, 101]⟩ (by decide) (by decide) h2 (wdp0 hi hc (w_t Hm.out Hst.out hi hc))
    clear ca h2 hi hc
    go_wp2_with fail
    refine cl.mono ?_
    clear cl
    rintro e w3 hD
    rcases hD with ⟨rfl, hD⟩ | ⟨x, j, rfl, hD⟩
    · have HD := hidden hD
      clear hD
      go_wp2_with fail
      go_end0
      exact Or.inl ⟨rfl, HD.out⟩
    · have HD := hidden hD
      clear hD
      go_wp2_with fail
      exact ⟨rfl, Or.inr ⟨x, j, rfl, HD.out⟩⟩
  by_cases q5 : ahd f n i = 102
  · rw [q5] at ca
    obtain ⟨hi, hc⟩ := Hlt.out 102 q5 (by decide)
    clear q5
    go_enter Try.func38, Try.ntmps38
    go_wp2_with fail
    refine ca.mono ?_
    rintro e w2 ⟨rfl, h2⟩
    have cl := word_any ⟨#[102, 97, 108, 115, 101]⟩ (by decide) (by decide) h2 (wdp0 hi hc (w_f Hm.out Hst.out hi hc))
    clear ca h2 hi hc
    go_wp2_with fail
    refine cl.mono ?_
    clear cl
    rintro e w3 hD
    rcases hD with ⟨rfl, hD⟩ | ⟨x, j, rfl, hD⟩
    · have HD := hidden hD
      clear hD
      go_wp2_with fail
      go_end0
      exact Or.inl ⟨rfl, HD.out⟩
    · have HD := hidden hD
      clear hD
      go_wp2_with fail
      exact ⟨rfl, Or.inr ⟨x, j, rfl, HD.out⟩⟩
  by_cases q6 : ahd f n i = 110
  · rw [q6] at ca
    obtain ⟨hi, hc⟩ := Hlt.out 110 q6 (by decide)
    clear q6
    go_enter Try.func38, Try.ntmps38
    go_wp2_with fail
    refine ca.mono ?_
    rintro e w2 ⟨rfl, h2⟩
    have cl := word_any ⟨#[110, 117, 108, 108]⟩ (by decide) (by decide) h2 (wdp0 hi hc (w_n Hm.out Hst.out hi hc))
    clear ca h2 hi hc
    go_wp2_with fail
    refine cl.mono ?_
    clear cl
    rintro e w3 hD
    rcases hD with ⟨rfl, hD⟩ | ⟨x, j, rfl, hD⟩
    · have HD := hidden hD
      clear hD
      go_wp2_with fail
      go_end0
      exact Or.inl ⟨rfl, HD.out⟩
    · have HD := hidden hD
      clear hD
      go_wp2_with fail
      exact ⟨rfl, Or.inr ⟨x, j, rfl, HD.out⟩⟩
  have hno : i < n → isB (f i) = false ∧ (st = 1 → f i ≠ 93) ∧ (isV (f i) = true → isD (f i) = true ∨ f i = 45) := fun q => by
    refine ⟨(Hb.out q).1, (Hb.out q).2, fun hv => ?_⟩
    have e := Hah.out
    rw [if_neg (by omega)] at e
    rw [e] at q1 q2 q3 q4 q5 q6
    simp only [isV, Bool.or_eq_true, decide_eq_true_eq] at hv
    rcases hv with ((((((h | h) | h) | h) | h) | h) | h) | h
    · exact absurd h q2
    · exact absurd h q1
    · exact absurd h q3
    · exact Or.inr h
    · exact Or.inl h
    · exact absurd h q4
    · exact absurd h q5
    · exact absurd h q6
  have Hno := hidden hno
  clear hno
  have z1 : ((ahd f n i : Int) == 91) = false := by simp; omega
  have z2 : ((ahd f n i : Int) == 123) = false := by simp; omega
  have z3 : ((ahd f n i : Int) == 34) = false := by simp; omega
  have z4 : ((ahd f n i : Int) == 116) = false := by simp; omega
  have z5 : ((ahd f n i : Int) == 102) = false := by simp; omega
  have z6 : ((ahd f n i : Int) == 110) = false := by simp; omega
  clear q1 q2 q3 q4 q5 q6 Hlt Hah Hb
  generalize ahd f n i = c at *
  go_enter Try.func38, Try.ntmps38
  go_wp2_with fail
  refine ca.mono ?_
  rintro e w2 ⟨rfl, h2⟩
  have cl := number_any h2 Hst.out Hm.out Hno.out
  clear ca h2
  go_wp2_with fail
  refine cl.mono ?_
  clear cl
  rintro e w3 hD
  rcases hD with ⟨rfl, hD⟩ | ⟨x, j, rfl, hD⟩
  · have HD := hidden hD
    clear hD
    go_wp2_with fail
    go_end0
    exact Or.inl ⟨rfl, HD.out⟩
  · have HD := hidden hD
    clear hD
    go_wp2_with fail
    exact ⟨rfl, Or.inr ⟨x, j, rfl, HD.out⟩⟩
theorem value_far : ∀ (m i : Nat), n + 1 - i ≤ m → El B R n w0 v f 38 1 0 93 i
  | 0, i, h => fun w d T o S st hr => by have := hr.hi; omega
  | m + 1, i, h => value_step fun i' hi' => by
    by_cases q : n + 1 - i' ≤ m
    · exact value_far m i' q
    · exact absurd h (by omega)
theorem value_any : El B R n w0 v f 38 1 0 93 i := value_far _ i (Nat.le_refl _)
end Go.Proofs.PlatenJson

/- What Read comes to. -/
namespace Go.Proofs.PlatenJson
open Go Go.RowKit
set_option linter.unusedVariables false
set_option maxRecDepth 100000

/-- n bytes at hand. -/
def Row (w : World) (v : Value) (n : Nat) (f : Nat → Nat) : Prop :=
  ∃ a cap, v = .slice a n cap ∧ (0 < n → ∃ b off, a = some ⟨b, off, none⟩ ∧ n ≤ cap ∧ ∀ j, j < n → w.cell? ⟨b, off + j, none⟩ = some (.int .u8 (f j)))
theorem Row.below {w w' : World} {v : Value} {n : Nat} {f : Nat → Nat} (h : Row w v n f) (hb : Below w.heap.size w w') : Row w' v n f := by
  obtain ⟨a, cap, rfl, h⟩ := h
  refine ⟨a, cap, rfl, fun hn => ?_⟩
  obtain ⟨b, off, rfl, hc, hr⟩ := h hn
  refine ⟨b, off, rfl, hc, fun j hj => ?_⟩
  have := hr j hj
  rw [hb.cell (p := ⟨b, off + j, none⟩) (World.block_lt_of_cell? _ _ this)]
  exact this

set_option maxHeartbeats 2000000 in
theorem catch_panicking (X A E R : Nat) (i x : Int) (older : List PanicEntry) (w : World) (hX : w.cell? ⟨X, 0, none⟩ = some (.pointer (some ⟨R, 0, none⟩))) (hR : w.cell? ⟨R, 1, none⟩ = some (.int .i64 i))
    (hA : w.cell? ⟨A, 0, none⟩ = some (.int .i64 0)) (hE : w.cell? ⟨E, 0, none⟩ = some (.int .i64 0)) (fA : w.frozen? ⟨A, 0, none⟩ = false) (fE : w.frozen? ⟨E, 0, none⟩ = false) (hne : A ≠ E) :
    CallsD Try.prog 36 #[.pointer (some ⟨X, 0, none⟩), .pointer (some ⟨A, 0, none⟩), .pointer (some ⟨E, 0, none⟩)] (.panicking ({ v := .iface 25 (.int .i64 x), recovered := false } :: older)) w fun e u' w' =>
      e = .returned (.tuple #[]) ∧ u' = .panicking ({ v := .iface 25 (.int .i64 x), recovered := true } :: older) ∧ w' = ((w.setCell ⟨A, 0, none⟩ (.int .i64 i)).setCell ⟨E, 0, none⟩ (.int .i64 x)).drew := by
  have hta : ∀ u : World, (Instr.typeAssert (.iface 25 (.int .i64 x)) 20 25 false).run Try.prog u = .ok (.int .i64 x) u := fun u => by
    simp [Instr.typeAssert, run_underlying Try.underlying25, go_sem, Result.andThen]
  refine callsD_of_wpS Try.func36 rfl fun c₀ cs hu => ?_
  apply wpS_seq
  apply wpS_region
  simp [wpOpsS, go_sem, recoverD, hu, Try.ntmps36, Exit.thenS]
  apply wpS_seq
  apply wpS_region
  simp [wpOpsS, go_sem, Exit.thenS]
  refine wpS_cond (t := true) (by simp [Act.eval, Array.replicate]) ?_
  simp only [if_true]
  refine wpS_of_wp ?_
  simp only [Array.replicate, List.replicate, List.setIfInBounds_toArray, List.set_cons_zero, List.set_cons_succ, List.append_toArray, List.cons_append, List.nil_append]
  go_region
  all_goals simp [bodyPostS, results, Try.results36]

set_option maxHeartbeats 1000000 in
theorem catch_idle (a b c : Value) (w : World) :
    CallsD Try.prog 36 #[a, b, c] .returning w fun e u' w' => e = .returned (.tuple #[]) ∧ u' = .returning ∧ w' = w := by
  refine callsD_of_wpS Try.func36 rfl fun c₀ cs hu => ?_
  apply wpS_seq
  apply wpS_region
  simp [wpOpsS, go_sem, recoverD, hu, Try.ntmps36, Exit.thenS]
  apply wpS_seq
  apply wpS_region
  simp [wpOpsS, go_sem, Exit.thenS]
  refine wpS_cond (t := false) (by simp [Act.eval, Array.replicate]) ?_
  simp only [Bool.false_eq_true, if_false]
  refine wpS_of_wp (wp_skip ?_)
  cases c₀
  simp_all [bodyPostS, results, Try.results36]

/-- Tokens at hand. -/
def IsTk (w : World) (v : Value) (T : List Tk) : Prop :=
  ∃ a cap, v = .slice a T.length cap ∧ (0 < T.length → ∃ g, a = some ⟨g, 0, none⟩ ∧ T.length ≤ cap ∧ ∀ i, i < T.length → w.cell? ⟨g, i * 3, none⟩ = some (.int .u8 ((T.getD i (0, 0, 0)).1 : Nat)) ∧ w.cell? ⟨g, i * 3 + 1, none⟩ = some (.int .i64 ((T.getD i (0, 0, 0)).2.1 : Nat)) ∧ w.cell? ⟨g, i * 3 + 2, none⟩ = some (.int .i64 ((T.getD i (0, 0, 0)).2.2 : Nat)))
theorem IsTk.below {w w' : World} {v : Value} {T : List Tk} (h : IsTk w v T) (hb : Below w.heap.size w w') : IsTk w' v T := by
  obtain ⟨a, cap, rfl, h⟩ := h
  refine ⟨a, cap, rfl, fun hl => ?_⟩
  obtain ⟨g, rfl, hc, hr⟩ := h hl
  refine ⟨g, rfl, hc, fun i hi => ?_⟩
  obtain ⟨h1, h2, h3⟩ := hr i hi
  rw [hb.cell (p := ⟨g, i * 3, none⟩) (World.block_lt_of_cell? _ _ h1), hb.cell (p := ⟨g, i * 3 + 1, none⟩) (World.block_lt_of_cell? _ _ h2), hb.cell (p := ⟨g, i * 3 + 2, none⟩) (World.block_lt_of_cell? _ _ h3)]
  exact ⟨h1, h2, h3⟩
theorem rowT_get : ∀ (l : List Tk) (i : Nat), i < l.length → (rowT l)[i * 3]? = some (.int .u8 ((l.getD i (0, 0, 0)).1 : Nat)) ∧ (rowT l)[i * 3 + 1]? = some (.int .i64 ((l.getD i (0, 0, 0)).2.1 : Nat)) ∧ (rowT l)[i * 3 + 2]? = some (.int .i64 ((l.getD i (0, 0, 0)).2.2 : Nat))
  | [], i, h => absurd h (Nat.not_lt_zero _)
  | p :: t, 0, _ => by simp [rowT]
  | p :: t, i + 1, h => by
    have ih := rowT_get t i (by simpa using h)
    have e : rowT (p :: t) = [.int .u8 (p.1 : Nat), .int .i64 (p.2.1 : Nat), .int .i64 (p.2.2 : Nat)] ++ rowT t := by simp [rowT]
    rw [e, List.getElem?_append_right (by simp; omega), List.getElem?_append_right (by simp; omega), List.getElem?_append_right (by simp; omega)]
    simp only [List.length_cons, List.length_nil]
    rw [show (i + 1) * 3 - (0 + 1 + 1 + 1) = i * 3 by omega, show (i + 1) * 3 + 1 - (0 + 1 + 1 + 1) = i * 3 + 1 by omega, show (i + 1) * 3 + 2 - (0 + 1 + 1 + 1) = i * 3 + 2 by omega]
    simpa using ih
theorem isTk_of {w : World} {base : Nat} {v : Value} {T : List Tk} (h : w.ownsRow base 47 3 v T.length (rowT T)) : IsTk w v T := by
  have hcl := fun g => h.cells (g := g)
  rcases h.2 with ⟨rfl, h0⟩ | ⟨g, cap, cur, rfl, hbg, hg, hnc, hcm, hcs, htake⟩
  · exact ⟨none, 0, by rw [h0], fun hl => by omega⟩
  · refine ⟨_, cap, rfl, fun _ => ⟨g, rfl, hnc, fun i hi => ?_⟩⟩
    obtain ⟨h1, h2, h3⟩ := rowT_get T i hi
    have g1 := hcl g rfl _ _ h1
    have g2 := hcl g rfl _ _ h2
    have g3 := hcl g rfl _ _ h3
    have ea : ∀ j, (⟨g, 0, none⟩ : Addr).add j = ⟨g, j, none⟩ := fun j => by unfold Addr.add; split <;> simp_all
    rw [ea] at g1 g2 g3
    exact ⟨g1, g2, g3⟩
theorem isTk_nil (w : World) : IsTk w (.slice none 0 0) [] := ⟨none, 0, rfl, fun h => absurd h (by simp)⟩

theorem RS.keep {B R n : Nat} {w0 : World} {v : Value} {f : Nat → Nat} {w : World} {tv : Value} {i d : Nat} {T : List Tk} (h : RS B R n w0 v f w tv i d T) {k : Nat} (hk : k < B) (hR : k ≠ R) (j : Nat) : w.cell? ⟨k, j, none⟩ = w0.cell? ⟨k, j, none⟩ ∧ w.frozen? ⟨k, j, none⟩ = w0.frozen? ⟨k, j, none⟩ :=
  ⟨World.cell?_of_block (w := w0) (h.block k hk hR), World.frozen?_of_block (w := w0) (h.block k hk hR)⟩
/-- The variables around the reader. -/
def Vs (s : Nat) (w : World) : Prop := w.cell? ⟨s, 0, none⟩ = some (.int .i64 0) ∧ w.cell? ⟨s + 1, 0, none⟩ = some (.int .i64 0) ∧ w.cell? ⟨s + 1 + 1 + 1, 0, none⟩ = some (.pointer (some ⟨s + 1 + 1, 0, none⟩)) ∧ w.frozen? ⟨s, 0, none⟩ = false ∧ w.frozen? ⟨s + 1, 0, none⟩ = false
theorem RS.vs {s n : Nat} {w0 : World} {v : Value} {f : Nat → Nat} {w : World} {tv : Value} {i d : Nat} {T : List Tk} (h : RS (s + 1 + 1 + 1 + 1) (s + 1 + 1) n w0 v f w tv i d T) (hv : Vs s w0) : Vs s w := by
  obtain ⟨a, b, c, d, e⟩ := hv
  refine ⟨?_, ?_, ?_, ?_, ?_⟩
  · rw [(h.keep (k := s) (by omega) (by omega) 0).1]; exact a
  · rw [(h.keep (k := s + 1) (by omega) (by omega) 0).1]; exact b
  · rw [(h.keep (k := s + 1 + 1 + 1) (by omega) (by omega) 0).1]; exact c
  · rw [(h.keep (k := s) (by omega) (by omega) 0).2]; exact d
  · rw [(h.keep (k := s + 1) (by omega) (by omega) 0).2]; exact e
theorem RS.below {s n : Nat} {w w0 : World} {v : Value} {f : Nat → Nat} {w' : World} {tv : Value} {i d : Nat} {T : List Tk} (h : RS (s + 1 + 1 + 1 + 1) (s + 1 + 1) n w0 v f w' tv i d T) (hb : Below s w w0) : Below s w w' :=
  hb.trans ⟨h.os, h.tape, h.output, h.sz, fun k hk => h.block k (by omega) (by omega)⟩
theorem boxes {s : Nat} {w : World} {x y : Int} {a b : Value} (hA : w.cell? ⟨s, 0, none⟩ = some a) (hE : w.cell? ⟨s + 1, 0, none⟩ = some b) :
    ((w.setCell ⟨s, 0, none⟩ (.int .i64 x)).setCell ⟨s + 1, 0, none⟩ (.int .i64 y)).cell? ⟨s, 0, none⟩ = some (.int .i64 x) ∧ ((w.setCell ⟨s, 0, none⟩ (.int .i64 x)).setCell ⟨s + 1, 0, none⟩ (.int .i64 y)).cell? ⟨s + 1, 0, none⟩ = some (.int .i64 y) := by
  constructor
  · rw [World.cell?_setCell_far _ _ _ _ (by simp)]
    exact World.cell?_setCell_same _ _ _ hA
  · refine World.cell?_setCell_same _ _ _ (u := b) ?_
    rw [World.cell?_setCell_far _ _ _ _ (by simp)]
    exact hE
theorem boxes_below {s : Nat} {w w' : World} (h : Below s w w') (x y : Value) : Below s w ((w'.setCell ⟨s, 0, none⟩ x).setCell ⟨s + 1, 0, none⟩ y) :=
  (h.setCell (p := ⟨s, 0, none⟩) (Nat.le_refl _) x).setCell (p := ⟨s + 1, 0, none⟩) (Nat.le_succ _) y
/-- What Read answers. -/
def RdP (w : World) (o : Res) (e : Ending) (w' : World) : Prop :=
  ∃ tv, e = .returned (.tuple #[tv, .int .i64 (o.2.1 : Nat), .int .i64 (o.2.2 : Nat)]) ∧ IsTk w' tv o.1 ∧ Below w.heap.size w w'

set_option maxHeartbeats 4000000 in
theorem read_any (v : Value) (n : Nat) (f : Nat → Nat) (w : World) (hf : ∀ j, f j < 256) (hn : n ≤ 100000) (h : Row w v n f) :
    Calls Try.prog 23 #[v] w (RdP w (ans f n)) := by
  have hmf : ∀ (fn : Fn) (first cap : Array Value) (w : World), (Instr.makeFunc fn first cap).run Try.prog w = .ok (.func fn first cap) w := fun _ _ _ _ => rfl
  have HC := hidden (start f n)
  generalize ans f n = o at *
  obtain ⟨a, cap, rfl, h⟩ := h
  have hr0 : ∀ W, W = (((w.alloc (Obj.cells #[Value.int IntKind.i64 0] 3)).alloc (Obj.cells #[Value.int IntKind.i64 0] 25)).alloc (Obj.cells #[Value.slice a n cap, Value.int IntKind.i64 0, Value.int IntKind.i64 0, Value.slice none 0 0] 70)).alloc (Obj.cells #[Value.pointer (some ⟨w.heap.size + 1 + 1, 0, none⟩)] 68) →
      RS (w.heap.size + 1 + 1 + 1 + 1) (w.heap.size + 1 + 1) n W (.slice a n cap) f W (.slice none 0 0) 0 0 [] ∧ W.cell? ⟨w.heap.size, 0, none⟩ = some (.int .i64 0) ∧ W.cell? ⟨w.heap.size + 1, 0, none⟩ = some (.int .i64 0) ∧ W.cell? ⟨w.heap.size + 1 + 1 + 1, 0, none⟩ = some (.pointer (some ⟨w.heap.size + 1 + 1, 0, none⟩)) ∧ W.frozen? ⟨w.heap.size, 0, none⟩ = false ∧ W.frozen? ⟨w.heap.size + 1, 0, none⟩ = false ∧ Below w.heap.size w W := by
    rintro W hW
    have e0 : W.heap[w.heap.size]? = some (Obj.cells #[Value.int IntKind.i64 0] 3) := by
      rw [hW, Below.heap_alloc _ _ _ (by simp; omega), Below.heap_alloc _ _ _ (by simp; omega), Below.heap_alloc _ _ _ (by simp)]
      exact heap_alloc_new _ _
    have e1 : W.heap[w.heap.size + 1]? = some (Obj.cells #[Value.int IntKind.i64 0] 25) := by
      rw [hW, Below.heap_alloc _ _ _ (by simp), Below.heap_alloc _ _ _ (by simp)]
      have := heap_alloc_new (w.alloc (Obj.cells #[Value.int IntKind.i64 0] 3)) (Obj.cells #[Value.int IntKind.i64 0] 25)
      simpa using this
    have e2 : W.heap[w.heap.size + 1 + 1]? = some (Obj.cells #[Value.slice a n cap, Value.int IntKind.i64 0, Value.int IntKind.i64 0, Value.slice none 0 0] 70) := by
      rw [hW, Below.heap_alloc _ _ _ (by simp)]
      have := heap_alloc_new ((w.alloc (Obj.cells #[Value.int IntKind.i64 0] 3)).alloc (Obj.cells #[Value.int IntKind.i64 0] 25)) (Obj.cells #[Value.slice a n cap, Value.int IntKind.i64 0, Value.int IntKind.i64 0, Value.slice none 0 0] 70)
      simpa using this
    have e3 : W.heap[w.heap.size + 1 + 1 + 1]? = some (Obj.cells #[Value.pointer (some ⟨w.heap.size + 1 + 1, 0, none⟩)] 68) := by
      have := heap_alloc_new (((w.alloc (Obj.cells #[Value.int IntKind.i64 0] 3)).alloc (Obj.cells #[Value.int IntKind.i64 0] 25)).alloc (Obj.cells #[Value.slice a n cap, Value.int IntKind.i64 0, Value.int IntKind.i64 0, Value.slice none 0 0] 70)) (Obj.cells #[Value.pointer (some ⟨w.heap.size + 1 + 1, 0, none⟩)] 68)
      rw [hW]
      simpa using this
    have hb : Below w.heap.size w W := by
      rw [hW]
      exact ((((Below.refl _ w).alloc (Nat.le_refl _) _).alloc (by simp) _).alloc (by simp; omega) _).alloc (by simp; omega) _
    have hsz : W.heap.size = w.heap.size + 1 + 1 + 1 + 1 := by rw [hW]; simp
    refine ⟨⟨hn, hf, by omega, by omega, Nat.zero_le _, by omega, e2, World.ownsRow_nil _ _ _ _, Nat.le_refl _, rfl, rfl, rfl, Nat.le_refl _, fun _ _ _ => rfl, a, cap, rfl, fun hp => ?_⟩, by simp [World.cell?, e0], by simp [World.cell?, e1], by simp [World.cell?, e3], frozen_of_row _ _ _ _ 3 e0, frozen_of_row _ _ _ _ 25 e1, hb⟩
    obtain ⟨b, off, rfl, hc, hr⟩ := h hp
    have hbl := World.block_lt_of_cell? _ _ (hr 0 hp)
    simp only at hbl
    refine ⟨b, off, rfl, hc, by omega, by omega, fun j hj => ?_⟩
    rw [hb.cell (p := ⟨b, off + j, none⟩) hbl]
    exact hr j hj
  have Hr0 := hidden hr0
  clear hr0
  have Hf := hidden hf
  clear h hf
  go_enter_defers Try.func23, Try.ntmps23
  go_wp2_with fail
  obtain ⟨h0, cA, cE, cX, fA, fE, hB⟩ := Hr0.out _ rfl
  clear Hr0
  generalize (((w.alloc (Obj.cells #[Value.int IntKind.i64 0] 3)).alloc (Obj.cells #[Value.int IntKind.i64 0] 25)).alloc (Obj.cells #[Value.slice a n cap, Value.int IntKind.i64 0, Value.int IntKind.i64 0, Value.slice none 0 0] 70)).alloc (Obj.cells #[Value.pointer (some ⟨w.heap.size + 1 + 1, 0, none⟩)] 68) = W at *
  have HVs : Hid (Vs w.heap.size W) := ⟨cA, cE, cX, fA, fE⟩
  have HB := hidden hB
  have cb := blanks_any ⟨_, h0⟩
  clear cA cE cX fA fE hB h0
  refine cb.mono ?_
  clear cb
  rintro e w1 ⟨rfl, j1, hk1, h1⟩
  have cv := value_any (i := j1) w1 0 [] o [] 0 h1 rfl (Or.inr rfl) (b_skip (by decide) HC.out hk1) (fun q => ⟨hk1.2.2.2 q, fun e => by cases e⟩)
  obtain ⟨_, _, cX, _, _⟩ := h1.choose_spec.vs HVs.out
  clear hk1 h1 HC
  go_wp2_with fail
  refine cv.mono ?_
  clear cv cX
  rintro e w2 hD
  rcases hD with ⟨rfl, j, T, hj, hnb, ⟨tv, h2⟩, hm⟩ | ⟨x, j, rfl, ⟨d, T, tv, h2⟩, ho⟩
  · by_cases hjn : j < n
    · have HO := hidden (top_bad hm hjn (hnb hjn))
      have H2 := hidden h2
      have c1 := h2.c1
      have hlz : (j : Int) < (n : Int) := by omega
      obtain ⟨cA, cE, cX, fA, fE⟩ := h2.vs HVs.out
      clear hm hnb h2
      go_wp2_with fail
      refine leaves_cons (f := 36) (args := #[.pointer (some ⟨w.heap.size + 1 + 1 + 1, 0, none⟩), .pointer (some ⟨w.heap.size, 0, none⟩), .pointer (some ⟨w.heap.size + 1, 0, none⟩)]) (by simp) (by simp [go_sem]) ?_
      refine (catch_panicking (w.heap.size + 1 + 1 + 1) w.heap.size (w.heap.size + 1) (w.heap.size + 1 + 1) j 5 [] w2 cX H2.out.c1 cA cE fA fE (by omega)).mono ?_
      rintro e u' w3 ⟨rfl, rfl, hw3⟩
      obtain ⟨dA, dE⟩ := boxes (x := j) (y := 5) cA cE
      have hbb := (boxes_below (H2.out.below HB.out) (.int .i64 j) (.int .i64 5)).drew
      have dA3 : w3.cell? ⟨w.heap.size, 0, none⟩ = some (.int .i64 j) := by rw [hw3]; exact dA
      have dE3 : w3.cell? ⟨w.heap.size + 1, 0, none⟩ = some (.int .i64 5) := by rw [hw3]; exact dE
      rw [← hw3] at hbb
      clear hw3 dA dE
      simp only [settle]
      refine ⟨.tuple #[.slice none 0 0, .int .i64 j, .int .i64 5], by simp [results, Try.results23, go_sem, dA3, dE3], ?_⟩
      rw [HO.out]
      exact ⟨_, rfl, isTk_nil _, hbb⟩
    · obtain rfl : j = n := by have := h2.hi; omega
      have HO := hidden (top_ok hm)
      have H2 := hidden h2
      have c1 := h2.c1
      have c3 := h2.c3
      have hlz : ¬ ((j : Int) < (j : Int)) := by omega
      obtain ⟨cA, cE, cX, fA, fE⟩ := h2.vs HVs.out
      clear hm hnb h2
      go_wp2_with fail
      refine leaves_cons (f := 36) (args := #[.pointer (some ⟨w.heap.size + 1 + 1 + 1, 0, none⟩), .pointer (some ⟨w.heap.size, 0, none⟩), .pointer (some ⟨w.heap.size + 1, 0, none⟩)]) (by simp) (by simp [go_sem]) ?_
      refine (catch_idle _ _ _ _).mono ?_
      rintro e u' w3 ⟨rfl, rfl, hw3⟩
      obtain ⟨dA, dE⟩ := boxes (x := 0) (y := 0) cA cE
      have hbb := boxes_below (H2.out.below HB.out) (.int .i64 0) (.int .i64 0)
      have hrow := row_same H2.out.row (w' := w3) (fun k hk => by
        have := (H2.out.row.lt k hk).1
        rw [hw3, heap_setCell_other _ _ _ _ (by simp; omega), heap_setCell_other _ _ _ _ (by simp; omega)])
      have dA3 : w3.cell? ⟨w.heap.size, 0, none⟩ = some (.int .i64 0) := by rw [hw3]; exact dA
      have dE3 : w3.cell? ⟨w.heap.size + 1, 0, none⟩ = some (.int .i64 0) := by rw [hw3]; exact dE
      rw [← hw3] at hbb
      clear hw3 dA dE
      simp only [Leaves, settle]
      refine ⟨.tuple #[tv, .int .i64 0, .int .i64 0], by simp [results, Try.results23, go_sem, dA3, dE3], ?_⟩
      rw [HO.out]
      exact ⟨_, rfl, isTk_of hrow, hbb⟩
  · have HO := hidden ho
    have H2 := hidden h2
    obtain ⟨cA, cE, cX, fA, fE⟩ := h2.vs HVs.out
    clear ho h2
    go_wp2_with fail
    refine leaves_cons (f := 36) (args := #[.pointer (some ⟨w.heap.size + 1 + 1 + 1, 0, none⟩), .pointer (some ⟨w.heap.size, 0, none⟩), .pointer (some ⟨w.heap.size + 1, 0, none⟩)]) (by simp) (by simp [go_sem]) ?_
    refine (catch_panicking (w.heap.size + 1 + 1 + 1) w.heap.size (w.heap.size + 1) (w.heap.size + 1 + 1) j x [] w2 cX H2.out.c1 cA cE fA fE (by omega)).mono ?_
    rintro e u' w3 ⟨rfl, rfl, hw3⟩
    obtain ⟨dA, dE⟩ := boxes (x := j) (y := x) cA cE
    have hbb := (boxes_below (H2.out.below HB.out) (.int .i64 j) (.int .i64 x)).drew
    have dA3 : w3.cell? ⟨w.heap.size, 0, none⟩ = some (.int .i64 j) := by rw [hw3]; exact dA
    have dE3 : w3.cell? ⟨w.heap.size + 1, 0, none⟩ = some (.int .i64 x) := by rw [hw3]; exact dE
    rw [← hw3] at hbb
    clear hw3 dA dE
    simp only [settle]
    refine ⟨.tuple #[.slice none 0 0, .int .i64 j, .int .i64 x], by simp [results, Try.results23, go_sem, dA3, dE3], ?_⟩
    rw [HO.out]
    exact ⟨_, rfl, isTk_nil _, hbb⟩
end Go.Proofs.PlatenJson
