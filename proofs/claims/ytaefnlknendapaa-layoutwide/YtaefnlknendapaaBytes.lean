/- A row of bytes in memory, told by a function; Go's own decoders at such a row, by the library's contracts, in the words of the plain arithmetic. -/
import Derived.Test.YtaefnlknendapaaShelf
import Derived.Test.YtaefnlknendapaaMathB
import Derived.WalkKit
import Derived.WalkLawsBesides
namespace Go.Proofs.PlatenGlyph
open Go.RowKit Go.Shelf Go.Lib
set_option linter.unusedVariables false

/-- n bytes from a place of memory on. -/
def Cells (w : World) (b off n : Nat) (f : Nat → Nat) : Prop := ∀ j, j < n → w.cell? ⟨b, off + j, none⟩ = some (.int .u8 (f j))

theorem Cells.tail {w : World} {b off n : Nat} {f : Nat → Nat} (h : Cells w b off n f) (k : Nat) : Cells w b (off + k) (n - k) (fun j => f (k + j)) := by
  intro j hj
  rw [Nat.add_assoc]
  exact h (k + j) (by omega)

theorem Cells.head {w : World} {b off n : Nat} {f : Nat → Nat} (h : Cells w b off n f) {k : Nat} (hk : k ≤ n) : Cells w b off k f := fun j hj => h j (by omega)

/-- As the library's contracts have it. -/
def bytesOf (f : Nat → Nat) (n : Nat) : ByteArray := ⟨((List.range n).map fun j => UInt8.ofNat (f j)).toArray⟩

theorem bytesOf_size (f : Nat → Nat) (n : Nat) : (bytesOf f n).size = n := by
  simp [bytesOf, ByteArray.size]

theorem bytesOf_get (f : Nat → Nat) (n j : Nat) (hj : j < n) (hf : ∀ j, f j < 256) : ((bytesOf f n).get! j).toNat = f j := by
  have hj' : j < (bytesOf f n).size := by rw [bytesOf_size]; exact hj
  rw [Utf8W.get!_of_lt _ _ hj']
  show (((List.range n).map fun j => UInt8.ofNat (f j)).toArray[j]'(by simpa using hj)).toNat = f j
  simp
  exact hf j

theorem bytesOf_lt (f : Nat → Nat) (n j : Nat) : ((bytesOf f n).get! j).toNat < 256 := ((bytesOf f n).get! j).toNat_lt

theorem cells_bytesOf {w : World} {b off n : Nat} {f : Nat → Nat} (hf : ∀ j, f j < 256) (h : Cells w b off n f) :
    ∀ j, j < (bytesOf f n).size → w.cell? ⟨b, off + j, none⟩ = some (.int .u8 ((bytesOf f n).get! j).toNat) := by
  intro j hj
  rw [bytesOf_size] at hj
  rw [bytesOf_get f n j hj hf]
  exact h j hj

theorem decodeAt_sz (f : Nat → Nat) (n i : Nat) (hf : ∀ j, f j < 256) (hi : i < n) : (Utf8.decode (bytesOf f n) i).2 = szAt f n i := by
  rw [Lib.decode_at, bytesOf_size, szAt_in hi]
  rw [decode_sz _ _ _ _ _ (by omega) (bytesOf_lt _ _ _) (bytesOf_lt _ _ _) (bytesOf_lt _ _ _) (bytesOf_lt _ _ _)]
  rw [bytesOf_get f n i hi hf]
  exact sz_congr (fun _ => bytesOf_get f n _ (by omega) hf) (fun _ => bytesOf_get f n _ (by omega) hf) (fun _ => bytesOf_get f n _ (by omega) hf)

theorem decodeGo_sz (f : Nat → Nat) (n : Nat) (hf : ∀ j, f j < 256) : (Lib.decodeGo (bytesOf f n)).2 = szAt f n 0 := by
  unfold Lib.decodeGo
  rw [bytesOf_size]
  by_cases h : n = 0
  · rw [if_pos h, szAt_out (by omega)]
  · rw [if_neg h]; exact decodeAt_sz f n 0 hf (by omega)

theorem runeCountFrom_cnt (f : Nat → Nat) (n : Nat) (hf : ∀ j, f j < 256) : ∀ b i, Lib.runeCountFrom (bytesOf f n) b i = cntFrom f n b i
  | 0, _ => rfl
  | b + 1, i => by
    simp only [Lib.runeCountFrom, cntFrom, bytesOf_size]
    by_cases h : i < n
    · rw [if_pos h, if_pos h, decodeAt_sz f n i hf h, runeCountFrom_cnt f n hf b]
    · rw [if_neg h, if_neg h]

theorem runeCount_cnt (f : Nat → Nat) (n : Nat) (hf : ∀ j, f j < 256) : Lib.runeCount (bytesOf f n) = cnt f n := by
  unfold Lib.runeCount cnt
  rw [bytesOf_size, runeCountFrom_cnt f n hf]

/-- utf8.RuneCount. -/
theorem runeCount_any (f : Nat → Nat) (b off n cap : Nat) (w : World) (hf : ∀ j, f j < 256) (hcap : n ≤ cap) (hn : n < 9223372036854775807) (hc : Cells w b off n f) :
    Calls Try.prog 29 #[.slice (some ⟨b, off, none⟩) n cap] w fun e w' => e = .returned (.int .i64 (cnt f n)) ∧ Below w.heap.size w w' := by
  have h : Calls Try.prog 29 #[.slice (some ⟨b, off, none⟩) (bytesOf f n).size cap] w fun e w' => e = .returned (.int .i64 (Lib.runeCount (bytesOf f n))) ∧ (w' = w ∨ ∃ t pos, w' = w.iter t pos) :=
    Any7.utf8_RuneCount Try.lays31 (bytesOf f n) b off cap w (by rw [bytesOf_size]; exact hcap) (cells_bytesOf hf hc) (by rw [bytesOf_size]; exact hn)
  rw [bytesOf_size, runeCount_cnt f n hf] at h
  refine h.mono fun e w' ⟨he, hw⟩ => ⟨he, ?_⟩
  rcases hw with rfl | ⟨t, pos, rfl⟩
  · exact Below.refl _ _
  · exact (Below.refl _ _).alloc (Nat.le_refl _) _

end Go.Proofs.PlatenGlyph
