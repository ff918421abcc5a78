/- tree.Format: a text laid out in lines of a width. -/
import Derived.Test.YtfakfgmengcndaaKM
import Derived.Lib.SlBytesConst
namespace Go.Proofs.PlatenTree
open Go Go.RowKit Go.Shelf
open Go.Proofs.PlatenLayout (str str_size itC rowI rowI_app rowI_one rowI_len It IsItems isItems_of OkL OkIt row_slice lay s0 LayRes lay_any)
set_option linter.unusedVariables false
set_option maxRecDepth 100000

theorem items_any (s : Bool) {v : Value} {p : List Nat} {w : World} (hp : ∀ c ∈ p, c < 256) (hn : p.length ≤ 69000) (h : RowL w v p) :
    Calls Try.prog 14 #[v, .bool s] w fun e w' => ItRes s p w e w' ∧ Below w.heap.size w w' := by
  cases s with
  | true => exact items_true hp hn h
  | false => exact items_false hp hn h
theorem ritems_any (s : Bool) {v : Value} {p : List Nat} {w : World} (hp : ∀ c ∈ p, c < 256) (hn : p.length ≤ 69000) (h : RowL w v p) :
    Calls Try.prog 16 #[v, .bool s] w fun e w' => ItRes s p w e w' ∧ Below w.heap.size w w' := by
  cases s with
  | true => exact ritems_true hp hn h
  | false => exact ritems_false hp hn h
theorem ok_txt (x : List Nat) (hx : ∀ c ∈ x, c < 256) (hl : x.length ≤ 70000) : OkIt (txt chn x) := ⟨by show 1 < 256; decide, hx, hl, rfl, by show (-1048576 : Int) ≤ 0 ∧ (0 : Int) ≤ 1048576; decide, by show (-1048576 : Int) ≤ 0 ∧ (0 : Int) ≤ 1048576; decide⟩
theorem ok_bk (n off : Int) (h : n = 0 ∨ n = 1) (h2 : off = 0 ∨ off = -2) : OkIt (bk n off) := by
  refine ⟨by show 2 < 256; decide, fun c hc => (by cases hc), Nat.zero_le _, rfl, ?_, ?_⟩
  · show (-1048576 : Int) ≤ n ∧ n ≤ 1048576; omega
  · show (-1048576 : Int) ≤ off ∧ off ≤ 1048576; omega
theorem ok_bgn (off : Int) (c wh : Bool) (h : off = 0 ∨ off = 2) : OkIt (bgn off c wh) := by
  refine ⟨by show 3 < 256; decide, fun c hc => (by cases hc), Nat.zero_le _, rfl, ?_, ?_⟩
  · show (-1048576 : Int) ≤ 0 ∧ (0 : Int) ≤ 1048576; decide
  · show (-1048576 : Int) ≤ off ∧ off ≤ 1048576; omega
theorem ok_en : OkIt en := ⟨by show 4 < 256; decide, fun c hc => (by cases hc), Nat.zero_le _, rfl, by show (-1048576 : Int) ≤ 0 ∧ (0 : Int) ≤ 1048576; decide, by show (-1048576 : Int) ≤ 0 ∧ (0 : Int) ≤ 1048576; decide⟩
theorem ok_pre (s : Bool) (pk : Nat) (t : Pc) : ∀ x ∈ pre s pk t, OkIt x := by
  intro x hx
  unfold pre at hx
  split at hx
  · simp at hx; rw [hx]; exact ok_bk 1 0 (Or.inr rfl) (Or.inl rfl)
  · split at hx
    · simp at hx; rw [hx]; exact ok_bk 0 (-2) (Or.inl rfl) (Or.inr rfl)
    · cases hx
theorem ok_post (s : Bool) (pk : Nat) (t : Pc) (nk : Nat) : ∀ x ∈ post s pk t nk, OkIt x := by
  intro x hx
  unfold post at hx
  split at hx
  · split at hx
    · simp at hx; rw [hx]; exact ok_bgn 0 _ _ (Or.inl rfl)
    · simp at hx
      rcases hx with hx | hx
      · rw [hx]; exact ok_bgn 2 _ _ (Or.inr rfl)
      · rw [hx]; exact ok_bk 0 0 (Or.inl rfl) (Or.inl rfl)
  · split at hx
    · simp at hx; rw [hx]; exact ok_en
    · split at hx
      · simp at hx; rw [hx]; exact ok_bk 1 0 (Or.inr rfl) (Or.inl rfl)
      · cases hx
theorem ok_itms (s : Bool) : ∀ (P : List Pc) (pk : Nat), (∀ t ∈ P, (∀ c ∈ t.2, c < 256) ∧ t.2.length ≤ 69000) → ∀ x ∈ itms chn s pk P, OkIt x
  | [], pk, _, x, hx => by cases hx
  | t :: r, pk, h, x, hx => by
    rw [itms_cons] at hx
    rcases List.mem_append.1 hx with hx | hx
    · exact ok_pre s pk t x hx
    rcases List.mem_cons.1 hx with hx | hx
    · rw [hx]
      obtain ⟨h1, h2⟩ := h t (by simp)
      refine ok_txt _ (fun c hc => ?_) ?_
      · rcases List.mem_append.1 hc with hc | hc
        · exact h1 c hc
        · unfold tb at hc
          split at hc
          · simp at hc; omega
          · cases hc
      · rw [List.length_append]
        have : (tb t).length ≤ 1 := by unfold tb; split <;> simp
        omega
    rcases List.mem_append.1 hx with hx | hx
    · exact ok_post s pk t _ x hx
    · exact ok_itms s r t.1 (fun y hy => h y (by simp [hy])) x hx
theorem rd_bytes {s : Bool} {p : List Nat} {P : List Pc} (h : rd s p = some P) (hp : ∀ c ∈ p, c < 256) : ∀ t ∈ P, (∀ c ∈ t.2, c < 256) ∧ t.2.length ≤ p.length := by
  obtain ⟨T, _, e, hb⟩ := ansL_ok h
  intro t ht
  rw [← e] at ht
  obtain ⟨k, hk, rfl⟩ := List.mem_map.1 ht
  refine ⟨sl_lt hp _ _, ?_⟩
  show (sl p k.2.1 k.2.2).length ≤ _
  rw [sl_len (hb k hk)]
  have := hb k hk
  omega
theorem okL_itms {s : Bool} {p : List Nat} {P : List Pc} (h : rd s p = some P) (hp : ∀ c ∈ p, c < 256) (hn : p.length ≤ 69000) (hl : (itms chn s 0 P).length ≤ 1500) : OkL (itms chn s 0 P) :=
  ⟨hl, ok_itms s P 0 (fun t ht => ⟨(rd_bytes h hp t ht).1, Nat.le_trans (rd_bytes h hp t ht).2 hn⟩)⟩
def outS (o : Option (List Nat)) : ByteArray := match o with | some q => str q | none => ByteArray.empty
def outE (o : Option (List Nat)) : Int := match o with | some _ => 0 | none => 4
theorem layRes_out {o : Option (List Nat)} {e : Ending} (h : LayRes o e) : e = .returned (.tuple #[.string (outS o), .int .i64 (outE o)]) := by
  cases o <;> exact h
/-- What Format answers. -/
def fmt (s : Bool) (wd : Int) (p : List Nat) : Value :=
  match rd s p with
  | none => .tuple #[.string ByteArray.empty, .int .i64 ((ansL s p).2.1 : Nat), .int .i64 ((ansL s p).2.2 : Nat)]
  | some P => .tuple #[.string (outS (lay wd (itms chn s 0 P) s0)), .int .i64 0, .int .i64 (outE (lay wd (itms chn s 0 P) s0))]
theorem format_any (s : Bool) (wd : Int) {v : Value} {p : List Nat} {w : World} (hwd : -4000000000 ≤ wd ∧ wd ≤ 4000000000) (hp : ∀ c ∈ p, c < 256) (hn : p.length ≤ 69000) (h : RowL w v p) (hl : ∀ P, rd s p = some P → (itms chn s 0 P).length ≤ 1500) :
    Calls Try.prog 19 #[v, .bool s, .int .i64 wd] w fun e w' => e = .returned (fmt s wd p) ∧ Below w.heap.size w w' := by
  have cs := items_any s hp hn h
  unfold ItRes at cs
  unfold fmt
  cases hrd : rd s p with
  | none =>
    rw [hrd] at cs
    simp only at cs
    have hne := ansL_no hrd
    generalize ansL s p = o at *
    obtain ⟨T, at', er⟩ := o
    simp only at hne cs ⊢
    have z0 : ((er : Int) != 0) = true := by simp; omega
    clear h hrd hne hl
    go_enter Try.func19, Try.ntmps19
    go_wp2_with fail
    refine cs.mono ?_
    clear cs
    rintro e w' ⟨rfl, hb⟩
    go_wp2_with fail
    go_ret3
    exact ⟨rfl, hb⟩
  | some P =>
    rw [hrd] at cs
    simp only at cs ⊢
    have ok := okL_itms hrd hp hn (hl P hrd)
    have cl := fun (W : World) (u : Value) (hu : IsItems W u (itms chn s 0 P)) => (lay_any hu ok wd hwd).mono (fun e w' q => (⟨layRes_out q.1, q.2⟩ : e = .returned (.tuple #[.string (outS (lay wd (itms chn s 0 P) s0)), .int .i64 (outE (lay wd (itms chn s 0 P) s0))]) ∧ Below W.heap.size W w'))
    generalize outS (lay wd (itms chn s 0 P) s0) = S at *
    generalize outE (lay wd (itms chn s 0 P) s0) = E at *
    generalize itms chn s 0 P = L at *
    have Hok := hidden ok
    clear h hrd hl hp hn ok
    go_enter Try.func19, Try.ntmps19
    go_wp2_with fail
    refine cs.mono ?_
    clear cs
    rintro e w1 ⟨⟨u, rfl, hu⟩, hb⟩
    have ch := cl w1 u hu
    clear cl
    have HB := hidden hb
    clear hb hu
    go_wp2_with fail
    refine ch.mono ?_
    clear ch
    rintro e w2 ⟨rfl, hb2⟩
    have HB2 := hidden (HB.out.trans (hb2.mono HB.out.size))
    clear hb2 HB
    go_wp2_with fail
    go_ret3
    exact ⟨rfl, HB2.out⟩
end Go.Proofs.PlatenTree

/- The example of layer 11; are two rows of tokens, of items, of texts the same? -/
namespace Go.Proofs.PlatenTree
open Go Go.RowKit Go.Shelf
open Go.Proofs.PlatenLayout (str str_size itC rowI It IsItems OkL OkIt lay s0)
set_option linter.unusedVariables false
set_option maxRecDepth 100000

theorem row_new (w : World) (L : List Nat) (cs : Array Value) (z : Nat × Nat) (h : cs = (L.map fun c => Value.int .u8 (c : Nat)).toArray) : RowL (w.alloc (.cells cs 5 z)) (.slice (some ⟨w.heap.size, 0, none⟩) L.length L.length) L := by
  refine ⟨_, _, rfl, fun hl => ⟨_, 0, rfl, Nat.le_refl _, fun j hj => ?_⟩⟩
  have := heap_alloc_new w (.cells cs 5 z)
  unfold World.cell?
  rw [this, h, Nat.zero_add]
  simp only [List.getElem?_toArray, List.getElem?_map, List.getElem?_eq_getElem hj, Option.map_some, List.getD_eq_getElem?_getD, Option.getD_some]
  rfl
theorem alloc_below {B : Nat} {a w : World} (h : Below B a w) (o : Obj) (hB : B ≤ w.heap.size) : Below B a (w.alloc o) := h.alloc hB o
def E1 : List Nat := [91, 49, 44, 50, 93]
def E2 : List Nat := [40, 32, 97, 32, 32, 39, 98, 41]
def P1 : List Pc := [(1, [91]), (5, [49]), (3, [44]), (5, [50]), (2, [93])]
def P2 : List Pc := [(1, [40]), (5, [97]), (6, [39]), (5, [98]), (2, [41])]
theorem rd1 : rd false E1 = some P1 := by rfl
theorem rd2 : rd true E2 = some P2 := by rfl
theorem lay1 : lay 80 (itms chn false 0 P1) s0 = some [91, 49, 44, 32, 50, 93] := by decide +kernel
theorem lay2 : lay 3 (itms chn true 0 P2) s0 = some [40, 97, 10, 32, 39, 98, 41] := by decide +kernel
theorem fmt1 : fmt false 80 E1 = .tuple #[.string ⟨#[91, 49, 44, 32, 50, 93]⟩, .int .i64 0, .int .i64 0] := by unfold fmt; rw [rd1]; simp only [lay1]; rfl
theorem fmt2 : fmt true 3 E2 = .tuple #[.string ⟨#[40, 97, 10, 32, 39, 98, 41]⟩, .int .i64 0, .int .i64 0] := by unfold fmt; rw [rd2]; simp only [lay2]; rfl
theorem len1 : ∀ P, rd false E1 = some P → (itms chn false 0 P).length ≤ 1500 := fun P h => by rw [rd1] at h; injection h with h; rw [← h]; decide +kernel
theorem len2 : ∀ P, rd true E2 = some P → (itms chn true 0 P).length ≤ 1500 := fun P h => by rw [rd2] at h; injection h with h; rw [← h]; decide +kernel
set_option maxHeartbeats 4000000 in
theorem laid_any (w : World) : Calls Try.prog 10 #[] w fun e w' => e = .returned (.bool true) ∧ Below w.heap.size w w' := by
  have kc := fun (w : World) (C : Array Value) (n c : Nat) => Lib.run_convert_bytes_const (P := Try.prog) w 22 5 C n c Try.underlying22 Try.underlying5
  have r1 := row_new w E1 #[Value.int .u8 91, Value.int .u8 49, Value.int .u8 44, Value.int .u8 50, Value.int .u8 93] (5, 6) rfl
  have c1 := format_any false 80 (by decide) (by decide) (by decide) r1 len1
  rw [fmt1] at c1
  have B1 := hidden (alloc_below (Below.refl w.heap.size w) (.cells #[Value.int .u8 91, Value.int .u8 49, Value.int .u8 44, Value.int .u8 50, Value.int .u8 93] 5 (5, 6)) (Nat.le_refl _))
  go_enter Try.func10, Try.ntmps10
  go_wp2_with fail
  refine c1.mono ?_
  rintro e w1 ⟨rfl, hb1⟩
  clear c1 r1
  have B2 := hidden (B1.out.trans (hb1.mono (by simp)))
  have B2' := hidden (alloc_below B2.out (.cells #[Value.int .u8 40, Value.int .u8 32, Value.int .u8 97, Value.int .u8 32, Value.int .u8 32, Value.int .u8 39, Value.int .u8 98, Value.int .u8 41] 5 (8, 9)) B2.out.size)
  have r2 := row_new w1 E2 #[Value.int .u8 40, Value.int .u8 32, Value.int .u8 97, Value.int .u8 32, Value.int .u8 32, Value.int .u8 39, Value.int .u8 98, Value.int .u8 41] (8, 9) rfl
  have c2 := format_any true 3 (by decide) (by decide) (by decide) r2 len2
  rw [fmt2] at c2
  clear hb1
  go_wp2_with fail
  refine c2.mono ?_
  rintro e w2 ⟨rfl, hb2⟩
  clear c2 r2
  have B3 := hidden (B2'.out.trans (hb2.mono (Nat.le_trans B2.out.size (by simp))))
  clear hb2
  go_wp2_with fail
  go_ret
  exact ⟨rfl, B3.out⟩
end Go.Proofs.PlatenTree
