/- What lines.Count, lines.before, lines.Of come to, at any bytes and any place. -/
import Derived.Test.YtjdjacnlobjmgaaDoorSigns
import Derived.Test.YtjdjacnlobjmgaaDoorLineM
namespace Go.Proofs.PlatenLines
open Go.RowKit Go.Shelf Go.Lib Go.Proofs.PlatenGlyph
set_option linter.unusedVariables false

/-- A slice that comes in: nothing, or a row of n bytes; byte j is f j. -/
def IsRow (w : World) (v : Value) (n : Nat) (f : Nat → Nat) : Prop :=
  (∀ j, f j < 256) ∧ n ≤ 9223372036854775807 ∧ ((∃ a, v = .slice a 0 0 ∧ n = 0) ∨ ∃ b off cap, v = .slice (some ⟨b, off, none⟩) n cap ∧ n ≤ cap ∧ Cells w b off n f)

theorem IsRow.below {w w' : World} {v : Value} {n : Nat} {f : Nat → Nat} (h : IsRow w v n f) (hb : Below w.heap.size w w') : IsRow w' v n f := by
  obtain ⟨hf, hn, h⟩ := h
  refine ⟨hf, hn, ?_⟩
  rcases h with h | ⟨b, off, cap, hv, hc, hr⟩
  · exact Or.inl h
  · exact Or.inr ⟨b, off, cap, hv, hc, hr.below hb⟩
theorem IsRow.bytes {w : World} {v : Value} {n : Nat} {f : Nat → Nat} (h : IsRow w v n f) (hn : n ≤ 9223372036854775806) : IsBytes w v n f := by
  obtain ⟨hf, _, h⟩ := h
  refine ⟨hf, hn, ?_⟩
  rcases h with ⟨a, hv, h0⟩ | h
  · exact Or.inl ⟨a, 0, hv, h0⟩
  · exact Or.inr h
theorem IsRow.len {w : World} {v : Value} {n : Nat} {f : Nat → Nat} (h : IsRow w v n f) : ∃ a cap, v = .slice a n cap := by
  rcases h.2.2 with ⟨a, rfl, rfl⟩ | ⟨b, off, cap, rfl, _, _⟩
  · exact ⟨_, _, rfl⟩
  · exact ⟨_, _, rfl⟩

theorem nums_cells {f : Nat → Nat} {w : World} {b off n a m : Nat} (h : Cells w b off n f) (ha : a + m ≤ n) :
    ∀ i, i < m → w.cell? ⟨b, off + a + i, none⟩ = some (.int .u8 ((nums f a m).getD i 0)) := by
  intro i hi
  rw [nums_getD hi, Nat.add_assoc]
  exact h (a + i) (by omega)

/-- bytes.IndexByte, for a line end, from a place on. -/
theorem index_row (f : Nat → Nat) (b off n cap a : Nat) (w : World) (ha : a ≤ n) (hc : Cells w b off n f) :
    Calls Tryd.prog 31 #[.slice (some ⟨b, off + a, none⟩) (n - a) (cap - a), .int .u8 10] w fun e w' => e = .returned (.int .i64 (Lib.indexByte (Lib.bytesOf (nums f a (n - a))) (UInt8.ofNat 10))) ∧ w' = w :=
  Any.bytes_IndexByte Tryd.lays187 b (off + a) (n - a) (cap - a) (nums f a (n - a)) 10 w (nums_len _ _ _) (nums_cells hc (by omega))

/-- bytes.Count, of line ends. -/
theorem bcount_row (f : Nat → Nat) (b off n cap b2 o2 d : Nat) (w : World) (hf : ∀ j, f j < 256) (hc : Cells w b off n f) (h2 : w.cell? ⟨b2, o2, none⟩ = some (.int .u8 10)) :
    Calls Tryd.prog 28 #[.slice (some ⟨b, off, none⟩) n cap, .slice (some ⟨b2, o2, none⟩) 1 d] w fun e w' => e = .returned (.int .i64 (lc f n : Nat)) ∧ w' = w := by
  have := Any.bytes_Count_one Tryd.laysB13 b off n cap b2 o2 d (nums f 0 n) 10 w (nums_len _ _ _) (fun i hi => by rw [nums_getD hi, Nat.zero_add]; exact hc i hi) h2
  rw [show (10 : Int).toNat.toUInt8 = UInt8.ofNat 10 from rfl, count_ends hf n] at this
  exact this
theorem bcount_none (b2 o2 d : Nat) (w : World) (h2 : w.cell? ⟨b2, o2, none⟩ = some (.int .u8 10)) (a : Option Addr) :
    Calls Tryd.prog 28 #[.slice a 0 0, .slice (some ⟨b2, o2, none⟩) 1 d] w fun e w' => e = .returned (.int .i64 0) ∧ w' = w := by
  cases a with
  | none => exact Any.bytes_Count_one_nil Tryd.laysB13 b2 o2 d 10 w h2
  | some a => exact Any.bytes_Count_one_at Tryd.laysB13 a 0 0 b2 o2 d [] 10 w rfl (fun i hi => absurd hi (Nat.not_lt_zero _)) h2

set_option maxHeartbeats 400000 in
theorem count_row (f : Nat → Nat) (b off n cap : Nat) (w : World) (hf : ∀ j, f j < 256) (hn : n ≤ 1000000) (hc : Cells w b off n f) :
    Calls Tryd.prog 12 #[.slice (some ⟨b, off, none⟩) n cap] w fun e w' => e = .returned (.int .i64 (lc f n + 1 : Nat)) ∧ Below w.heap.size w w' := by
  have hb0 : Below w.heap.size w (w.alloc (.cells #[.int .u8 10] 5)) := (Below.refl _ _).alloc (Nat.le_refl _) _
  have c := bcount_row f b off n cap w.heap.size 0 1 (w.alloc (.cells #[.int .u8 10] 5)) hf (hc.below hb0) (by simp)
  have hl := lc_le f n
  have Hb := hidden hb0
  clear hc hb0
  generalize lc f n = s at *
  go_enter Tryd.func12, Tryd.ntmps12
  go_wp2_with fail
  refine c.mono ?_
  rintro e w' ⟨rfl, rfl⟩
  go_wp2
  go_ret
  exact ⟨by simp, Hb.out⟩
set_option maxHeartbeats 400000 in
theorem count_none (a : Option Addr) (w : World) :
    Calls Tryd.prog 12 #[.slice a 0 0] w fun e w' => e = .returned (.int .i64 1) ∧ Below w.heap.size w w' := by
  have hb0 : Below w.heap.size w (w.alloc (.cells #[.int .u8 10] 5)) := (Below.refl _ _).alloc (Nat.le_refl _) _
  have c := bcount_none w.heap.size 0 1 (w.alloc (.cells #[.int .u8 10] 5)) (by simp) a
  have Hb := hidden hb0
  clear hb0
  go_enter Tryd.func12, Tryd.ntmps12
  go_wp2_with fail
  refine c.mono ?_
  rintro e w' ⟨rfl, rfl⟩
  go_wp2
  go_ret
  exact ⟨rfl, Hb.out⟩
theorem count_any (v : Value) (n : Nat) (f : Nat → Nat) (w : World) (hn : n ≤ 1000000) (h : IsRow w v n f) :
    Calls Tryd.prog 12 #[v] w fun e w' => e = .returned (.int .i64 (lc f n + 1 : Nat)) ∧ Below w.heap.size w w' := by
  obtain ⟨hf, _, h⟩ := h
  rcases h with ⟨a, rfl, rfl⟩ | ⟨b, off, cap, rfl, hcap, hc⟩
  · exact count_none a w
  · exact count_row f b off n cap w hf hn hc

/-- A place, brought into the text. -/
def clamp (n : Nat) (at' : Int) : Nat := (min (max at' 0) n).toNat
theorem clamp_le (n : Nat) (a : Int) : clamp n a ≤ n := by unfold clamp; omega
theorem clamp_z (n : Nat) (a : Int) : ((clamp n a : Nat) : Int) = min (max a 0) n := by unfold clamp; omega

set_option maxHeartbeats 400000 in
theorem before_row (b off n cap : Nat) (a : Int) (w : World) (hn : n ≤ 9223372036854775807) (hcap : n ≤ cap) :
    Calls Tryd.prog 29 #[.slice (some ⟨b, off, none⟩) n cap, .int .i64 a] w fun e w' => e = .returned (.slice (some ⟨b, off, none⟩) (clamp n a) cap) ∧ w' = w := by
  go_enter Tryd.func29, Tryd.ntmps29
  go_wp2
  go_ret
  exact ⟨rfl, rfl⟩
set_option maxHeartbeats 400000 in
theorem before_none (ea : Option Addr) (a : Int) (w : World) :
    Calls Tryd.prog 29 #[.slice ea 0 0, .int .i64 a] w fun e w' => e = .returned (.slice ea 0 0) ∧ w' = w := by
  have h0 : min (max a 0) 0 = 0 := by omega
  cases ea with
  | none =>
    go_enter Tryd.func29, Tryd.ntmps29
    go_wp2
    go_ret
    exact ⟨rfl, rfl⟩
  | some x =>
    go_enter Tryd.func29, Tryd.ntmps29
    go_wp2
    go_ret
    exact ⟨rfl, rfl⟩
theorem before_any (v : Value) (n : Nat) (f : Nat → Nat) (a : Int) (w : World) (h : IsRow w v n f) :
    Calls Tryd.prog 29 #[v, .int .i64 a] w fun e w' => ∃ v', e = .returned v' ∧ IsRow w v' (clamp n a) f ∧ w' = w := by
  obtain ⟨hf, hn, h⟩ := h
  have hl := clamp_le n a
  rcases h with ⟨ea, rfl, rfl⟩ | ⟨b, off, cap, rfl, hcap, hc⟩
  · exact (before_none ea a w).mono fun e w' ⟨he, hw⟩ => ⟨_, he, ⟨hf, by omega, Or.inl ⟨ea, rfl, by omega⟩⟩, hw⟩
  · exact (before_row b off n cap a w hn hcap).mono fun e w' ⟨he, hw⟩ => ⟨_, he, ⟨hf, by omega, Or.inr ⟨b, off, cap, rfl, by omega, hc.head hl⟩⟩, hw⟩

set_option maxHeartbeats 400000 in
theorem of_any (v : Value) (n : Nat) (f : Nat → Nat) (a : Int) (w : World) (hn : n ≤ 1000000) (h : IsRow w v n f) :
    Calls Tryd.prog 14 #[v, .int .i64 a] w fun e w' => e = .returned (.int .i64 (lc f (clamp n a) : Nat)) ∧ Below w.heap.size w w' := by
  have c1 := before_any v n f a w h
  have hl := clamp_le n a
  have hll := lc_le f (clamp n a)
  generalize clamp n a = k at *
  obtain ⟨s, hs⟩ : ∃ s, lc f k = s := ⟨_, rfl⟩
  rw [hs] at hll ⊢
  have Hs := hidden hs
  clear h hs
  go_enter Tryd.func14, Tryd.ntmps14
  go_wp2_with fail
  refine c1.mono ?_
  rintro e w' ⟨v', rfl, hr, rfl⟩
  have c2 := count_any v' k f _ (by omega) hr
  rw [Hs.out] at c2
  clear hr c1
  go_wp2_with fail
  refine c2.mono ?_
  rintro e w2 ⟨rfl, hb⟩
  go_wp2
  go_ret
  exact ⟨by simp, hb⟩
end Go.Proofs.PlatenLines
