/- A row of bytes in memory, told by a function; Go's own decoders at such a row, by the library's contracts, in the words of the plain arithmetic. -/
import Derived.Test.YtfakfgmengcndaaShelf
import Derived.Test.YtfakfgmengcndaaKA
import Derived.WalkKit
import Derived.WalkLawsBesides
namespace Go.Proofs.PlatenGlyph
open Go.RowKit Go.Shelf Go.Lib
set_option linter.unusedVariables false

/-- n bytes from a place of memory on. -/
def Cells (w : World) (b off n : Nat) (f : Nat → Nat) : Prop := ∀ j, j < n → w.cell? ⟨b, off + j, none⟩ = some (.int .u8 (f j))

theorem Cells.tail {w : World} {b off n : Nat} {f : Nat → Nat} (h : Cells w b off n f) (k : Nat) : Cells w b (off + k) (n - k) (fun j => f (k + j)) := by
  intro j hj
  rw [Nat.add_assoc]
  exact h (k + j) (by omega)

theorem Cells.head {w : World} {b off n : Nat} {f : Nat → Nat} (h : Cells w b off n f) {k : Nat} (hk : k ≤ n) : Cells w b off k f := fun j hj => h j (by omega)

/-- As the library's contracts have it. -/
def bytesOf (f : Nat → Nat) (n : Nat) : ByteArray := ⟨((List.range n).map fun j => UInt8.ofNat (f j)).toArray⟩

theorem bytesOf_size (f : Nat → Nat) (n : Nat) : (bytesOf f n).size = n := by
  simp [bytesOf, ByteArray.size]

theorem bytesOf_get (f : Nat → Nat) (n j : Nat) (hj : j < n) (hf : ∀ j, f j < 256) : ((bytesOf f n).get! j).toNat = f j := by
  have hj' : j < (bytesOf f n).size := by rw [bytesOf_size]; exact hj
  rw [Utf8W.get!_of_lt _ _ hj']
  show (((List.range n).map fun j => UInt8.ofNat (f j)).toArray[j]'(by simpa using hj)).toNat = f j
  simp
  exact hf j

theorem bytesOf_lt (f : Nat → Nat) (n j : Nat) : ((bytesOf f n).get! j).toNat < 256 := ((bytesOf f n).get! j).toNat_lt

theorem cells_bytesOf {w : World} {b off n : Nat} {f : Nat → Nat} (hf : ∀ j, f j < 256) (h : Cells w b off n f) :
    ∀ j, j < (bytesOf f n).size → w.cell? ⟨b, off + j, none⟩ = some (.int .u8 ((bytesOf f n).get! j).toNat) := by
  intro j hj
  rw [bytesOf_size] at hj
  rw [bytesOf_get f n j hj hf]
  exact h j hj

theorem decodeAt_sz (f : Nat → Nat) (n i : Nat) (hf : ∀ j, f j < 256) (hi : i < n) : (Utf8.decode (bytesOf f n) i).2 = szAt f n i := by
  rw [Lib.decode_at, bytesOf_size, szAt_in hi]
  rw [decode_sz _ _ _ _ _ (by omega) (bytesOf_lt _ _ _) (bytesOf_lt _ _ _) (bytesOf_lt _ _ _) (bytesOf_lt _ _ _)]
  rw [bytesOf_get f n i hi hf]
  exact sz_congr (fun _ => bytesOf_get f n _ (by omega) hf) (fun _ => bytesOf_get f n _ (by omega) hf) (fun _ => bytesOf_get f n _ (by omega) hf)

theorem decodeGo_sz (f : Nat → Nat) (n : Nat) (hf : ∀ j, f j < 256) : (Lib.decodeGo (bytesOf f n)).2 = szAt f n 0 := by
  unfold Lib.decodeGo
  rw [bytesOf_size]
  by_cases h : n = 0
  · rw [if_pos h, szAt_out (by omega)]
  · rw [if_neg h]; exact decodeAt_sz f n 0 hf (by omega)

theorem runeCountFrom_cnt (f : Nat → Nat) (n : Nat) (hf : ∀ j, f j < 256) : ∀ b i, Lib.runeCountFrom (bytesOf f n) b i = cntFrom f n b i
  | 0, _ => rfl
  | b + 1, i => by
    simp only [Lib.runeCountFrom, cntFrom, bytesOf_size]
    by_cases h : i < n
    · rw [if_pos h, if_pos h, decodeAt_sz f n i hf h, runeCountFrom_cnt f n hf b]
    · rw [if_neg h, if_neg h]

theorem runeCount_cnt (f : Nat → Nat) (n : Nat) (hf : ∀ j, f j < 256) : Lib.runeCount (bytesOf f n) = cnt f n := by
  unfold Lib.runeCount cnt
  rw [bytesOf_size, runeCountFrom_cnt f n hf]

/-- utf8.RuneCount. -/
theorem runeCount_any (f : Nat → Nat) (b off n cap : Nat) (w : World) (hf : ∀ j, f j < 256) (hcap : n ≤ cap) (hn : n < 9223372036854775807) (hc : Cells w b off n f) :
    Calls Try.prog 91 #[.slice (some ⟨b, off, none⟩) n cap] w fun e w' => e = .returned (.int .i64 (cnt f n)) ∧ Below w.heap.size w w' := by
  have h : Calls Try.prog 91 #[.slice (some ⟨b, off, none⟩) (bytesOf f n).size cap] w fun e w' => e = .returned (.int .i64 (Lib.runeCount (bytesOf f n))) ∧ (w' = w ∨ ∃ t pos, w' = w.iter t pos) :=
    Any7.utf8_RuneCount Try.lays31 (bytesOf f n) b off cap w (by rw [bytesOf_size]; exact hcap) (cells_bytesOf hf hc) (by rw [bytesOf_size]; exact hn)
  rw [bytesOf_size, runeCount_cnt f n hf] at h
  refine h.mono fun e w' ⟨he, hw⟩ => ⟨he, ?_⟩
  rcases hw with rfl | ⟨t, pos, rfl⟩
  · exact Below.refl _ _
  · exact (Below.refl _ _).alloc (Nat.le_refl _) _

end Go.Proofs.PlatenGlyph

/- How many signs bytes are: glyph.Count, the document's Size and Starts. -/
namespace Go.Proofs.PlatenGlyph
open Go.RowKit Go.Shelf
set_option linter.unusedVariables false

/-- A slice of n bytes; byte j is f j. -/
def IsBytes (w : World) (v : Value) (n : Nat) (f : Nat → Nat) : Prop :=
  (∀ j, f j < 256) ∧ n ≤ 9223372036854775806 ∧ ((∃ a cap, v = .slice a 0 cap ∧ n = 0) ∨ ∃ b off cap, v = .slice (some ⟨b, off, none⟩) n cap ∧ n ≤ cap ∧ Cells w b off n f)

theorem Cells.below {w w' : World} {b off n : Nat} {f : Nat → Nat} (h : Cells w b off n f) (hb : Below w.heap.size w w') : Cells w' b off n f := by
  intro j hj
  have hc := h j hj
  rw [hb.cell (p := ⟨b, off + j, none⟩) (World.block_lt_of_cell? _ _ hc)]
  exact hc

set_option maxHeartbeats 400000 in
theorem runeCount_none (a : Option Addr) (cap : Nat) (w : World) :
    Calls Try.prog 91 #[.slice a 0 cap] w fun e w' => e = .returned (.int .i64 0) ∧ w' = w := by
  go_enter Try.func91, Try.ntmps91
  go_wp2
  go_loop [4] (fun n => n = .int .i64 0) (fun _ => 0)
  case atStart => rfl
  case round =>
    subst hrel
    go_wp2
    go_ret
    exact ⟨rfl, rfl⟩

set_option maxHeartbeats 400000 in
theorem count_any (v : Value) (f : Nat → Nat) (n : Nat) (w : World) (h : IsBytes w v n f) :
    Calls Try.prog 73 #[v] w fun e w' => e = .returned (.int .i64 (cnt f n)) ∧ Below w.heap.size w w' := by
  obtain ⟨hf, hn, h⟩ := h
  rcases h with ⟨ea, ecap, rfl, rfl⟩ | ⟨b, off, cap, rfl, hcap, hc⟩
  · have c := runeCount_none ea ecap w
    go_enter Try.func73, Try.ntmps73
    go_wp2_with fail
    refine c.mono ?_
    rintro e w' ⟨rfl, rfl⟩
    go_wp2
    go_ret
    exact ⟨rfl, Below.refl _ _⟩
  · have c := runeCount_any f b off n cap w hf hcap (by omega) hc
    clear hc
    generalize cnt f n = s at *
    go_enter Try.func73, Try.ntmps73
    go_wp2_with fail
    refine c.mono ?_
    rintro e w' ⟨rfl, hb⟩
    go_wp2
    go_ret
    exact ⟨rfl, hb⟩
theorem hidden' {p : Prop} (h : p) : Hid p := h

theorem info3 : (Try.prog.info? 3).map (fun i => (i.zero, i.size, i.bytes)) = some (some (.int .i64 0), 1, 8) := by kernel_rfl
theorem info5 : (Try.prog.info? 5).map (fun i => (i.zero, i.size, i.bytes)) = some (some (.int .u8 0), 1, 1) := by kernel_rfl

/-- Behind an append to a row of the call's own. -/
theorem below_append {B : Nat} {e : TypeId} {w wr w1 : World} {v : Value} {n : Nat} {xs : List Value} {o : Obj} (hB : B ≤ wr.heap.size) (hown : wr.ownsRow B e 1 v n xs) (hnx : Below B w wr) (hg : (wr.alloc o).grownBy w1 v.ownBlock) : Below B w w1 :=
  (hnx.alloc hB o).grown hg (by simp; omega) (fun j hj => (hown.lt j hj).1)

def startsL (f : Nat → Nat) (n k : Nat) : List Value := (List.range k).map fun i => Value.int .i64 (nth f n i : Nat)
theorem startsL_succ (f : Nat → Nat) (n k : Nat) : startsL f n (k + 1) = startsL f n k ++ [Value.int .i64 (nth f n k : Nat)] := by
  simp [startsL, List.range_succ]

/-- A slice of c integers. -/
def IsInts (w : World) (v : Value) (c : Nat) (x : Nat → Nat) : Prop :=
  (v = .slice none 0 0 ∧ c = 0) ∨ ∃ g cap, v = .slice (some ⟨g, 0, none⟩) c cap ∧ ∀ i, i < c → w.cell? ⟨g, i, none⟩ = some (.int .i64 (x i : Nat))

theorem isInts_of {w : World} {base : Nat} {v : Value} {c : Nat} {x : Nat → Nat} (h : w.ownsRow base 3 1 v c ((List.range c).map fun i => Value.int .i64 (x i : Nat))) : IsInts w v c x := by
  obtain ⟨_, h⟩ := h
  rcases h with ⟨rfl, rfl⟩ | ⟨g, cap, cur, rfl, _, hh, hc, _, hs, ht⟩
  · exact Or.inl ⟨rfl, rfl⟩
  · refine Or.inr ⟨g, cap, rfl, fun i hi => ?_⟩
    have h1 : (cur.toList.take (c * 1))[i]? = some (Value.int .i64 (x i : Nat)) := by
      rw [ht, List.getElem?_map, List.getElem?_range hi]; rfl
    rw [List.getElem?_take, if_pos (by omega), Array.getElem?_toList] at h1
    simp only [World.cell?, hh]
    simpa using h1

theorem IsInts.below {w w' : World} {v : Value} {c : Nat} {x : Nat → Nat} (h : IsInts w v c x) (hb : Below w.heap.size w w') : IsInts w' v c x := by
  rcases h with h | ⟨g, cap, hv, hc⟩
  · exact Or.inl h
  · refine Or.inr ⟨g, cap, hv, fun i hi => ?_⟩
    have := hc i hi
    rw [hb.cell (p := ⟨g, i, none⟩) (World.block_lt_of_cell? _ _ this)]
    exact this

end Go.Proofs.PlatenGlyph
