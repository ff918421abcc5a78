/- What lines.Split comes to: a new row of all lines' bytes. -/
import Derived.Test.YtjdjacnlobjmgaaDoorSplitM
import Derived.Test.YtjdjacnlobjmgaaDoorShelfC
import Derived.Test.YtjdjacnlobjmgaaDoorLnI
namespace Go.Proofs.PlatenLines
open Go.RowKit Go.Shelf Go.Proofs.PlatenGlyph
set_option linter.unusedVariables false

theorem info9 : (Tryd.prog.info? 9).map (fun i => (i.zero, i.size, i.bytes)) = some (some (.string ByteArray.empty), 1, 16) := by kernel_rfl

/-- strings.Index and strings.Count, for a line end. -/
theorem sindex_any (s : ByteArray) (w : World) :
    Calls Tryd.prog 56 #[.string s, .string ⟨#[UInt8.ofNat 10]⟩] w fun e w' => e = .returned (.int .i64 (Lib.indexB s ⟨#[UInt8.ofNat 10]⟩)) ∧ w' = w := by
  have h := Any.strings_Index_one Tryd.lays143 s (UInt8.ofNat 10) w
  rw [← Lib.index_one] at h
  exact h
theorem scount_any (s : ByteArray) (w : World) :
    Calls Tryd.prog 55 #[.string s, .string ⟨#[UInt8.ofNat 10]⟩] w fun e w' => e = .returned (.int .i64 (Lib.countB s ⟨#[UInt8.ofNat 10]⟩)) ∧ w' = w := by
  have h := Any.strings_Count_one Tryd.lays138 s (UInt8.ofNat 10) w
  show Calls Tryd.prog 55 _ w fun e w' => e = .returned (.int .i64 ((Lib.count s.data.toList [UInt8.ofNat 10] : Nat) : Int)) ∧ w' = w
  rw [Lib.count_one]
  exact h

theorem gen_any (f : Nat → Nat) (n : Nat) (w : World) (hf : ∀ j, f j < 256) (hn : n ≤ 1000000) :
    Calls Tryd.prog 43 #[.string (textB f n), .string ⟨#[UInt8.ofNat 10]⟩, .int .i64 0, .int .i64 (-1)] w fun e w' =>
      e = .returned (.slice (some ⟨w.heap.size, 0, none⟩) (lc f n + 1) (lc f n + 1)) ∧ w' = w.alloc (.cells (((List.range (lc f n + 1)).map fun i => Value.string (pieceB f n i)).toArray) 9) := by
  have hc := countB_text (n := n) hf
  have hle := lc_le f n
  have h := Any.strings_genSplit_core Tryd.lays221 info9 (textB f n) ⟨#[UInt8.ofNat 10]⟩ 0 (-1) (lc f n + 1) w (by rw [textB_size]; omega) (by decide) (Nat.zero_le _)
    (fun x c _ => sindex_any x _) (scount_any _ w) (by decide) (by decide) (by rw [if_pos (by decide), hc, textB_size]; omega)
  rw [Nat.add_sub_cancel, splitB_pieces hf, List.length_map, List.length_range] at h
  have e : Lib.cellsOf ((List.range (lc f n + 1)).map fun i => pieceB f n i) (lc f n + 1) = (((List.range (lc f n + 1)).map fun i => Value.string (pieceB f n i)).toArray) := by
    have := Lib.cellsOf_full ((List.range (lc f n + 1)).map fun i => pieceB f n i)
    rw [List.length_map, List.length_range, List.map_map] at this
    exact this
  rw [e] at h
  exact h

set_option maxHeartbeats 400000 in
theorem ssplit_any (f : Nat → Nat) (n : Nat) (w : World) (hf : ∀ j, f j < 256) (hn : n ≤ 1000000) :
    Calls Tryd.prog 32 #[.string (textB f n), .string ⟨#[UInt8.ofNat 10]⟩] w fun e w' =>
      e = .returned (.slice (some ⟨w.heap.size, 0, none⟩) (lc f n + 1) (lc f n + 1)) ∧ w' = w.alloc (.cells (((List.range (lc f n + 1)).map fun i => Value.string (pieceB f n i)).toArray) 9) := by
  have c := gen_any f n w hf hn
  generalize w.alloc (.cells (((List.range (lc f n + 1)).map fun i => Value.string (pieceB f n i)).toArray) 9) = W at *
  generalize lc f n + 1 = m at *
  generalize textB f n = t at *
  generalize (⟨#[UInt8.ofNat 10]⟩ : ByteArray) = sep at *
  go_enter Tryd.func32, Tryd.ntmps32
  go_wp2_with fail
  refine c.mono ?_
  rintro e w' ⟨rfl, hw⟩
  subst hw
  go_wp2
  go_ret
  exact ⟨rfl, rfl⟩

/-- All lines' bytes, in a block that isn't below base. -/
def IsLines (base : Nat) (w : World) (v : Value) (f : Nat → Nat) (n : Nat) : Prop :=
  ∃ g cap, base ≤ g ∧ v = .slice (some ⟨g, 0, none⟩) (lc f n + 1) cap ∧ lc f n + 1 ≤ cap ∧ ∀ i, i < lc f n + 1 → w.cell? ⟨g, i, none⟩ = some (.string (pieceB f n i))
theorem IsLines.below {base : Nat} {w w' : World} {v : Value} {n : Nat} {f : Nat → Nat} (h : IsLines base w v f n) (hb : Below w.heap.size w w') : IsLines base w' v f n := by
  obtain ⟨g, cap, hbg, hv, hcap, hc⟩ := h
  refine ⟨g, cap, hbg, hv, hcap, fun i hi => ?_⟩
  have h1 := hc i hi
  rw [hb.cell (p := ⟨g, i, none⟩) (World.block_lt_of_cell? _ _ h1)]
  exact h1
theorem isLines_new (f : Nat → Nat) (n : Nat) (w : World) : IsLines w.heap.size (w.alloc (.cells (((List.range (lc f n + 1)).map fun i => Value.string (pieceB f n i)).toArray) 9)) (.slice (some ⟨w.heap.size, 0, none⟩) (lc f n + 1) (lc f n + 1)) f n := by
  refine ⟨w.heap.size, lc f n + 1, Nat.le_refl _, rfl, Nat.le_refl _, fun i hi => ?_⟩
  have h : ∀ o, (w.alloc o).heap[w.heap.size]? = some o := fun o => by
    show (w.heap.push o)[w.heap.size]? = _
    simp
  unfold World.cell?
  rw [h]
  simp [hi]

/-- A row of bytes, as a string. -/
theorem conv_text (f : Nat → Nat) (b off n cap : Nat) (w : World) (hf : ∀ j, f j < 256) (hc : Cells w b off n f) :
    (convert 22 9 (.slice (some ⟨b, off, none⟩) n cap)).run Tryd.prog w = .ok (.string (textB f n)) w := by
  have := run_convert_bytes_back (P := Tryd.prog) w 22 9 5 ⟨b, off, none⟩ cap (textL f n) Tryd.underlying22 Tryd.underlying5 Tryd.underlying9 (fun j hj => by
    have hj' : j < n := by simpa [textL] using hj
    rw [Addr.add_lit, hc j hj']
    have := hf j
    simp [textL]
    omega)
  rw [show (textL f n).length = n by simp [textL]] at this
  exact this
theorem conv_none (a : Option Addr) (f : Nat → Nat) (w : World) :
    (convert 22 9 (.slice a 0 0)).run Tryd.prog w = .ok (.string (textB f 0)) w := by
  cases a with
  | none => exact run_convert_bytes_nil (P := Tryd.prog) w 22 5 Tryd.underlying22 Tryd.underlying5 0 0 9 Tryd.underlying9
  | some x => exact run_convert_bytes_back (P := Tryd.prog) w 22 9 5 x 0 [] Tryd.underlying22 Tryd.underlying5 Tryd.underlying9 (fun j hj => by simp at hj)
theorem conv_row (v : Value) (n : Nat) (f : Nat → Nat) (w : World) (h : IsRow w v n f) : (convert 22 9 v).run Tryd.prog w = .ok (.string (textB f n)) w := by
  obtain ⟨hf, _, h⟩ := h
  rcases h with ⟨ea, rfl, rfl⟩ | ⟨b, off, cap, rfl, hcap, hc⟩
  · exact conv_none ea f w
  · exact conv_text f b off n cap w hf hc

set_option maxHeartbeats 400000 in
theorem split_any (v : Value) (n : Nat) (f : Nat → Nat) (w : World) (hn : n ≤ 1000000) (h : IsRow w v n f) :
    Calls Tryd.prog 20 #[v] w fun e w' => ∃ l, e = .returned l ∧ IsLines w.heap.size w' l f n ∧ Below w.heap.size w w' := by
  have hcv := conv_row v n f w h
  have c : Calls Tryd.prog 32 #[.string (textB f n), .string ⟨#[10]⟩] w fun e w' => ∃ l, e = .returned l ∧ IsLines w.heap.size w' l f n ∧ Below w.heap.size w w' :=
    (ssplit_any f n w h.1 hn).mono fun e w' ⟨he, hw⟩ => ⟨_, he, by rw [hw]; exact isLines_new f n w, by rw [hw]; exact (Below.refl _ _).alloc (Nat.le_refl _) _⟩
  clear h
  generalize textB f n = t at *
  go_enter Tryd.func20, Tryd.ntmps20
  go_wp2_with fail
  refine c.mono ?_
  rintro e w' ⟨l, rfl, hl, hb⟩
  have HL := hidden hl
  have HB := hidden hb
  clear hl hb hcv c
  go_wp2
  go_ret
  exact ⟨l, rfl, HL.out, HB.out⟩
end Go.Proofs.PlatenLines
