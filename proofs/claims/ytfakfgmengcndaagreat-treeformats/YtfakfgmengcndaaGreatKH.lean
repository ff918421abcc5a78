/- A row of bytes in memory, told by a function; Go's own decoders at such a row, by the library's contracts, in the words of the plain arithmetic. -/
import Derived.Test.YtfakfgmengcndaaGreatShelf
import Derived.Test.YtfakfgmengcndaaGreatKA
import Derived.WalkKit
import Derived.WalkLawsBesides
namespace Go.Proofs.PlatenGlyph
open Go.RowKit Go.Shelf Go.Lib
set_option linter.unusedVariables false

/-- n bytes from a place of memory on. -/
def Cells (w : World) (b off n : Nat) (f : Nat → Nat) : Prop := ∀ j, j < n → w.cell? ⟨b, off + j, none⟩ = some (.int .u8 (f j))

theorem Cells.tail {w : World} {b off n : Nat} {f : Nat → Nat} (h : Cells w b off n f) (k : Nat) : Cells w b (off + k) (n - k) (fun j => f (k + j)) := by
  intro j hj
  rw [Nat.add_assoc]
  exact h (k + j) (by omega)

theorem Cells.head {w : World} {b off n : Nat} {f : Nat → Nat} (h : Cells w b off n f) {k : Nat} (hk : k ≤ n) : Cells w b off k f := fun j hj => h j (by omega)

/-- As the library's contracts have it. -/
def bytesOf (f : Nat → Nat) (n : Nat) : ByteArray := ⟨((List.range n).map fun j => UInt8.ofNat (f j)).toArray⟩

theorem bytesOf_size (f : Nat → Nat) (n : Nat) : (bytesOf f n).size = n := by
  simp [bytesOf, ByteArray.size]

theorem bytesOf_get (f : Nat → Nat) (n j : Nat) (hj : j < n) (hf : ∀ j, f j < 256) : ((bytesOf f n).get! j).toNat = f j := by
  have hj' : j < (bytesOf f n).size := by rw [bytesOf_size]; exact hj
  rw [Utf8W.get!_of_lt _ _ hj']
  show (((List.range n).map fun j => UInt8.ofNat (f j)).toArray[j]'(by simpa using hj)).toNat = f j
  simp
  exact hf j

theorem bytesOf_lt (f : Nat → Nat) (n j : Nat) : ((bytesOf f n).get! j).toNat < 256 := ((bytesOf f n).get! j).toNat_lt

theorem cells_bytesOf {w : World} {b off n : Nat} {f : Nat → Nat} (hf : ∀ j, f j < 256) (h : Cells w b off n f) :
    ∀ j, j < (bytesOf f n).size → w.cell? ⟨b, off + j, none⟩ = some (.int .u8 ((bytesOf f n).get! j).toNat) := by
  intro j hj
  rw [bytesOf_size] at hj
  rw [bytesOf_get f n j hj hf]
  exact h j hj

theorem decodeAt_sz (f : Nat → Nat) (n i : Nat) (hf : ∀ j, f j < 256) (hi : i < n) : (Utf8.decode (bytesOf f n) i).2 = szAt f n i := by
  rw [Lib.decode_at, bytesOf_size, szAt_in hi]
  rw [decode_sz _ _ _ _ _ (by omega) (bytesOf_lt _ _ _) (bytesOf_lt _ _ _) (bytesOf_lt _ _ _) (bytesOf_lt _ _ _)]
  rw [bytesOf_get f n i hi hf]
  exact sz_congr (fun _ => bytesOf_get f n _ (by omega) hf) (fun _ => bytesOf_get f n _ (by omega) hf) (fun _ => bytesOf_get f n _ (by omega) hf)

theorem decodeGo_sz (f : Nat → Nat) (n : Nat) (hf : ∀ j, f j < 256) : (Lib.decodeGo (bytesOf f n)).2 = szAt f n 0 := by
  unfold Lib.decodeGo
  rw [bytesOf_size]
  by_cases h : n = 0
  · rw [if_pos h, szAt_out (by omega)]
  · rw [if_neg h]; exact decodeAt_sz f n 0 hf (by omega)

theorem runeCountFrom_cnt (f : Nat → Nat) (n : Nat) (hf : ∀ j, f j < 256) : ∀ b i, Lib.runeCountFrom (bytesOf f n) b i = cntFrom f n b i
  | 0, _ => rfl
  | b + 1, i => by
    simp only [Lib.runeCountFrom, cntFrom, bytesOf_size]
    by_cases h : i < n
    · rw [if_pos h, if_pos h, decodeAt_sz f n i hf h, runeCountFrom_cnt f n hf b]
    · rw [if_neg h, if_neg h]

theorem runeCount_cnt (f : Nat → Nat) (n : Nat) (hf : ∀ j, f j < 256) : Lib.runeCount (bytesOf f n) = cnt f n := by
  unfold Lib.runeCount cnt
  rw [bytesOf_size, runeCountFrom_cnt f n hf]

/-- utf8.RuneCount. -/
theorem runeCount_any (f : Nat → Nat) (b off n cap : Nat) (w : World) (hf : ∀ j, f j < 256) (hcap : n ≤ cap) (hn : n < 9223372036854775807) (hc : Cells w b off n f) :
    Calls Tryz.prog 55 #[.slice (some ⟨b, off, none⟩) n cap] w fun e w' => e = .returned (.int .i64 (cnt f n)) ∧ Below w.heap.size w w' := by
  have h : Calls Tryz.prog 55 #[.slice (some ⟨b, off, none⟩) (bytesOf f n).size cap] w fun e w' => e = .returned (.int .i64 (Lib.runeCount (bytesOf f n))) ∧ (w' = w ∨ ∃ t pos, w' = w.iter t pos) :=
    Any7.utf8_RuneCount Tryz.lays31 (bytesOf f n) b off cap w (by rw [bytesOf_size]; exact hcap) (cells_bytesOf hf hc) (by rw [bytesOf_size]; exact hn)
  rw [bytesOf_size, runeCount_cnt f n hf] at h
  refine h.mono fun e w' ⟨he, hw⟩ => ⟨he, ?_⟩
  rcases hw with rfl | ⟨t, pos, rfl⟩
  · exact Below.refl _ _
  · exact (Below.refl _ _).alloc (Nat.le_refl _) _

end Go.Proofs.PlatenGlyph

/- How many signs bytes are: glyph.Count, the document's Size and Starts. -/
namespace Go.Proofs.PlatenGlyph
open Go.RowKit Go.Shelf
set_option linter.unusedVariables false

/-- A slice of n bytes; byte j is f j. -/
def IsBytes (w : World) (v : Value) (n : Nat) (f : Nat → Nat) : Prop :=
  (∀ j, f j < 256) ∧ n ≤ 9223372036854775806 ∧ ((∃ a cap, v = .slice a 0 cap ∧ n = 0) ∨ ∃ b off cap, v = .slice (some ⟨b, off, none⟩) n cap ∧ n ≤ cap ∧ Cells w b off n f)

theorem Cells.below {w w' : World} {b off n : Nat} {f : Nat → Nat} (h : Cells w b off n f) (hb : Below w.heap.size w w') : Cells w' b off n f := by
  intro j hj
  have hc := h j hj
  rw [hb.cell (p := ⟨b, off + j, none⟩) (World.block_lt_of_cell? _ _ hc)]
  exact hc

set_option maxHeartbeats 400000 in
theorem runeCount_none (a : Option Addr) (cap : Nat) (w : World) :
    Calls Tryz.prog 55 #[.slice a 0 cap] w fun e w' => e = .returned (.int .i64 0) ∧ w' = w := by
  go_enter Tryz.func55, Tryz.ntmps55
  go_wp2
  go_loop [4] (fun n => n = .int .i64 0) (fun _ => 0)
  case atStart => rfl
  case round =>
    subst hrel
    go_wp2
    go_ret
    exact ⟨rfl, rfl⟩

set_option maxHeartbeats 400000 in
theorem count_any (v : Value) (f : Nat → Nat) (n : Nat) (w : World) (h : IsBytes w v n f) :
    Calls Tryz.prog 36 #[v] w fun e w' => e = .returned (.int .i64 (cnt f n)) ∧ Below w.heap.size w w' := by
  obtain ⟨hf, hn, h⟩ := h
  rcases h with ⟨ea, ecap, rfl, rfl⟩ | ⟨b, off, cap, rfl, hcap, hc⟩
  · have c := runeCount_none ea ecap w
    go_enter Tryz.func36, Tryz.ntmps36
    go_wp2_with fail
    refine c.mono ?_
    rintro e w' ⟨rfl, rfl⟩
    go_wp2
    go_ret
    exact ⟨rfl, Below.refl _ _⟩
  · have c := runeCount_any f b off n cap w hf hcap (by omega) hc
    clear hc
    generalize cnt f n = s at *
    go_enter Tryz.func36, Tryz.ntmps36
    go_wp2_with fail
    refine c.mono ?_
    rintro e w' ⟨rfl, hb⟩
    go_wp2
    go_ret
    exact ⟨rfl, hb⟩
set_option maxHeartbeats 1000000 in
/-- A byte that begins no sign of several bytes. -/
theorem size_one (b off n cap k x : Nat) (w : World) (hn : n ≤ 9223372036854775806) (hk : k < n) (hc : w.cell? ⟨b, off + k, none⟩ = some (.int .u8 x)) (hx : x < 194 ∨ 244 < x) (hxb : x < 256) :
    Calls Tryz.prog 67 #[.slice (some ⟨b, off, none⟩) n cap, .int .i64 k] w fun e w' => e = .returned (.int .i64 1) ∧ w' = w := by
  have h0 : ¬ ((k : Int) < 0) := by omega
  have h1 : ¬ ((k : Int) ≥ (n : Int)) := by omega
  have q1 : ((x : Int) == 224) = false := by simp; omega
  have q2 : ((x : Int) == 237) = false := by simp; omega
  have q3 : ((x : Int) == 240) = false := by simp; omega
  have q4 : ((x : Int) == 244) = false := by simp; omega
  rcases hx with hx | hx
  · go_enter Tryz.func67, Tryz.ntmps67
    go_wp2
    all_goals go_ret
    all_goals exact ⟨rfl, rfl⟩
  · go_enter Tryz.func67, Tryz.ntmps67
    go_wp2
    all_goals go_ret
    all_goals exact ⟨rfl, rfl⟩
theorem hidden' {p : Prop} (h : p) : Hid p := h

set_option maxHeartbeats 1000000 in
set_option maxRecDepth 100000 in
theorem size_C2 (b off n cap k x y z u : Nat) (w : World) (hn : n ≤ 9223372036854775806) (hk : k < n) (hx : 194 ≤ x ∧ x ≤ 223) (c0 : w.cell? ⟨b, off + k, none⟩ = some (.int .u8 x))
    (c1 : k + 1 < n → w.cell? ⟨b, off + (k + 1), none⟩ = some (.int .u8 y)) (c2 : k + 2 < n → w.cell? ⟨b, off + (k + 2), none⟩ = some (.int .u8 z)) (c3 : k + 3 < n → w.cell? ⟨b, off + (k + 3), none⟩ = some (.int .u8 u)) (hy : y < 256) (hz : z < 256) (hu : u < 256) :
    Calls Tryz.prog 67 #[.slice (some ⟨b, off, none⟩) n cap, .int .i64 k] w fun e w' => e = .returned (.int .i64 (sz (n - k) x y z u)) ∧ w' = w := by
  have hl : lead x = 2 := by unfold lead; (repeat' split) <;> omega
  have hlo : low x = 128 := by unfold low; (repeat' split) <;> omega
  have hhi : high x = 191 := by unfold high; (repeat' split) <;> omega
  have hsz : sz (n - k) x y z u = if n - k < 2 ∨ y < 128 ∨ 191 < y then 1 else if 3 ≤ 2 ∧ (z < 128 ∨ 191 < z) then 1 else if 4 ≤ 2 ∧ (u < 128 ∨ 191 < u) then 1 else 2 := by
    unfold sz; rw [hl, hlo, hhi]; simp
  clear hl hlo hhi
  have h0 : ¬ ((k : Int) < 0) := by omega
  have h1 : ¬ ((k : Int) ≥ (n : Int)) := by omega
  have q0 : ((x : Int) == 224) = false := by simp; omega
  have q1 : ((x : Int) == 237) = false := by simp; omega
  have q2 : ((x : Int) == 240) = false := by simp; omega
  have q3 : ((x : Int) == 244) = false := by simp; omega
  by_cases hs : n < k + 2
  · have Hfin : Hid (sz (n - k) x y z u = 1) := by unfold Hid; rw [hsz]; (repeat' split) <;> omega
    have hs' : (n : Int) - (k : Int) < 2 := by omega
    clear c1 c2 c3 hsz
    go_enter Tryz.func67, Tryz.ntmps67
    go_wp2
    go_ret
    exact ⟨by rw [Hfin.out]; rfl, rfl⟩
  have hs' : ¬ ((n : Int) - (k : Int) < 2) := by omega
  have e1 := c1 (by omega)
  by_cases y1 : y < 128
  · have Hfin : Hid (sz (n - k) x y z u = 1) := by unfold Hid; rw [hsz]; (repeat' split) <;> omega
    have y1' : (y : Int) < 128 := by omega
    clear c1 c2 c3 hsz
    go_enter Tryz.func67, Tryz.ntmps67
    go_wp2
    go_ret
    exact ⟨by rw [Hfin.out]; rfl, rfl⟩
  by_cases y2 : 191 < y
  · have Hfin : Hid (sz (n - k) x y z u = 1) := by unfold Hid; rw [hsz]; (repeat' split) <;> omega
    have y1' : ¬ ((y : Int) < 128) := by omega
    have y2' : 191 < (y : Int) := by omega
    clear c1 c2 c3 hsz
    go_enter Tryz.func67, Tryz.ntmps67
    go_wp2
    go_ret
    exact ⟨by rw [Hfin.out]; rfl, rfl⟩
  have y1' : ¬ ((y : Int) < 128) := by omega
  have y2' : ¬ (191 < (y : Int)) := by omega
  have e2 : 2 < 2 → w.cell? ⟨b, off + (k + 2), none⟩ = some (.int .u8 z) := fun h => c2 (by omega)
  have e3 : 3 < 2 → w.cell? ⟨b, off + (k + 3), none⟩ = some (.int .u8 u) := fun h => c3 (by omega)
  have HS := hidden' hsz
  clear c1 c2 c3 hsz
  go_enter Tryz.func67, Tryz.ntmps67
  go_wp2
  go_loop [9] (fun i => ∃ m : Nat, 2 ≤ m ∧ m ≤ 2 ∧ i = .int .i64 m ∧ (2 < m → 128 ≤ z ∧ z ≤ 191) ∧ (3 < m → 128 ≤ u ∧ u ≤ 191)) (fun i => 2 - (intOf i).toNat)
  case atStart => exact ⟨2, by omega, by omega, rfl, by omega, by omega⟩
  case round =>
    obtain ⟨m, hm2, hmk, rfl, iz, iu⟩ := hrel
    by_cases hm : m = 2
    · have Hfin : Hid (sz (n - k) x y z u = 2) := by unfold Hid; rw [HS.out]; (repeat' split) <;> omega
      clear HS e2 e3
      subst hm
      go_wp2
      go_ret
      exact ⟨by rw [Hfin.out]; rfl, rfl⟩
    · omega

set_option maxHeartbeats 1000000 in
set_option maxRecDepth 100000 in
theorem size_E0 (b off n cap k x y z u : Nat) (w : World) (hn : n ≤ 9223372036854775806) (hk : k < n) (hx : x = 224) (c0 : w.cell? ⟨b, off + k, none⟩ = some (.int .u8 x))
    (c1 : k + 1 < n → w.cell? ⟨b, off + (k + 1), none⟩ = some (.int .u8 y)) (c2 : k + 2 < n → w.cell? ⟨b, off + (k + 2), none⟩ = some (.int .u8 z)) (c3 : k + 3 < n → w.cell? ⟨b, off + (k + 3), none⟩ = some (.int .u8 u)) (hy : y < 256) (hz : z < 256) (hu : u < 256) :
    Calls Tryz.prog 67 #[.slice (some ⟨b, off, none⟩) n cap, .int .i64 k] w fun e w' => e = .returned (.int .i64 (sz (n - k) x y z u)) ∧ w' = w := by
  have hl : lead x = 3 := by unfold lead; (repeat' split) <;> omega
  have hlo : low x = 160 := by unfold low; (repeat' split) <;> omega
  have hhi : high x = 191 := by unfold high; (repeat' split) <;> omega
  have hsz : sz (n - k) x y z u = if n - k < 3 ∨ y < 160 ∨ 191 < y then 1 else if 3 ≤ 3 ∧ (z < 128 ∨ 191 < z) then 1 else if 4 ≤ 3 ∧ (u < 128 ∨ 191 < u) then 1 else 3 := by
    unfold sz; rw [hl, hlo, hhi]; simp
  clear hl hlo hhi
  have h0 : ¬ ((k : Int) < 0) := by omega
  have h1 : ¬ ((k : Int) ≥ (n : Int)) := by omega
  subst hx
  by_cases hs : n < k + 3
  · have Hfin : Hid (sz (n - k) 224 y z u = 1) := by unfold Hid; rw [hsz]; (repeat' split) <;> omega
    have hs' : (n : Int) - (k : Int) < 3 := by omega
    clear c1 c2 c3 hsz
    go_enter Tryz.func67, Tryz.ntmps67
    go_wp2
    go_ret
    exact ⟨by rw [Hfin.out]; rfl, rfl⟩
  have hs' : ¬ ((n : Int) - (k : Int) < 3) := by omega
  have e1 := c1 (by omega)
  by_cases y1 : y < 160
  · have Hfin : Hid (sz (n - k) 224 y z u = 1) := by unfold Hid; rw [hsz]; (repeat' split) <;> omega
    have y1' : (y : Int) < 160 := by omega
    clear c1 c2 c3 hsz
    go_enter Tryz.func67, Tryz.ntmps67
    go_wp2
    go_ret
    exact ⟨by rw [Hfin.out]; rfl, rfl⟩
  by_cases y2 : 191 < y
  · have Hfin : Hid (sz (n - k) 224 y z u = 1) := by unfold Hid; rw [hsz]; (repeat' split) <;> omega
    have y1' : ¬ ((y : Int) < 160) := by omega
    have y2' : 191 < (y : Int) := by omega
    clear c1 c2 c3 hsz
    go_enter Tryz.func67, Tryz.ntmps67
    go_wp2
    go_ret
    exact ⟨by rw [Hfin.out]; rfl, rfl⟩
  have y1' : ¬ ((y : Int) < 160) := by omega
  have y2' : ¬ (191 < (y : Int)) := by omega
  have e2 : 2 < 3 → w.cell? ⟨b, off + (k + 2), none⟩ = some (.int .u8 z) := fun h => c2 (by omega)
  have e3 : 3 < 3 → w.cell? ⟨b, off + (k + 3), none⟩ = some (.int .u8 u) := fun h => c3 (by omega)
  have HS := hidden' hsz
  clear c1 c2 c3 hsz
  go_enter Tryz.func67, Tryz.ntmps67
  go_wp2
  go_loop [9] (fun i => ∃ m : Nat, 2 ≤ m ∧ m ≤ 3 ∧ i = .int .i64 m ∧ (2 < m → 128 ≤ z ∧ z ≤ 191) ∧ (3 < m → 128 ≤ u ∧ u ≤ 191)) (fun i => 3 - (intOf i).toNat)
  case atStart => exact ⟨2, by omega, by omega, rfl, by omega, by omega⟩
  case round =>
    obtain ⟨m, hm2, hmk, rfl, iz, iu⟩ := hrel
    by_cases hm : m = 3
    · have Hfin : Hid (sz (n - k) 224 y z u = 3) := by unfold Hid; rw [HS.out]; (repeat' split) <;> omega
      clear HS e2 e3
      subst hm
      go_wp2
      go_ret
      exact ⟨by rw [Hfin.out]; rfl, rfl⟩
    by_cases hm2 : m = 2
    · subst hm2
      have cc := e2 (by omega)
      by_cases v1 : z < 128
      · have Hfin : Hid (sz (n - k) 224 y z u = 1) := by unfold Hid; rw [HS.out]; (repeat' split) <;> omega
        have v1' : (z : Int) < 128 := by omega
        clear HS e2 e3 iz iu
        go_wp2
        go_ret
        exact ⟨by rw [Hfin.out]; rfl, rfl⟩
      have v1' : ¬ ((z : Int) < 128) := by omega
      by_cases v2 : 191 < z
      · have Hfin : Hid (sz (n - k) 224 y z u = 1) := by unfold Hid; rw [HS.out]; (repeat' split) <;> omega
        have v2' : 191 < (z : Int) := by omega
        clear HS e2 e3 iz iu
        go_wp2
        go_ret
        exact ⟨by rw [Hfin.out]; rfl, rfl⟩
      have v2' : ¬ (191 < (z : Int)) := by omega
      have HR : Hid (∃ m : Nat, 2 ≤ m ∧ m ≤ 3 ∧ m = 3 ∧ (2 < m → 128 ≤ z ∧ z ≤ 191) ∧ (3 < m → 128 ≤ u ∧ u ≤ 191)) := ⟨3, by omega, by omega, rfl, by omega, by omega⟩
      clear HS e2 e3 iz iu
      go_wp2
      go_round
      case rel =>
        obtain ⟨m, g1, g2, g3, g4, g5⟩ := HR.out
        exact ⟨m, g1, g2, by rw [g3]; rfl, g4, g5⟩
      case measure => simp [intOf]
    · omega

set_option maxHeartbeats 1000000 in
set_option maxRecDepth 100000 in
theorem size_E1 (b off n cap k x y z u : Nat) (w : World) (hn : n ≤ 9223372036854775806) (hk : k < n) (hx : 225 ≤ x ∧ x ≤ 236) (c0 : w.cell? ⟨b, off + k, none⟩ = some (.int .u8 x))
    (c1 : k + 1 < n → w.cell? ⟨b, off + (k + 1), none⟩ = some (.int .u8 y)) (c2 : k + 2 < n → w.cell? ⟨b, off + (k + 2), none⟩ = some (.int .u8 z)) (c3 : k + 3 < n → w.cell? ⟨b, off + (k + 3), none⟩ = some (.int .u8 u)) (hy : y < 256) (hz : z < 256) (hu : u < 256) :
    Calls Tryz.prog 67 #[.slice (some ⟨b, off, none⟩) n cap, .int .i64 k] w fun e w' => e = .returned (.int .i64 (sz (n - k) x y z u)) ∧ w' = w := by
  have hl : lead x = 3 := by unfold lead; (repeat' split) <;> omega
  have hlo : low x = 128 := by unfold low; (repeat' split) <;> omega
  have hhi : high x = 191 := by unfold high; (repeat' split) <;> omega
  have hsz : sz (n - k) x y z u = if n - k < 3 ∨ y < 128 ∨ 191 < y then 1 else if 3 ≤ 3 ∧ (z < 128 ∨ 191 < z) then 1 else if 4 ≤ 3 ∧ (u < 128 ∨ 191 < u) then 1 else 3 := by
    unfold sz; rw [hl, hlo, hhi]; simp
  clear hl hlo hhi
  have h0 : ¬ ((k : Int) < 0) := by omega
  have h1 : ¬ ((k : Int) ≥ (n : Int)) := by omega
  have q0 : ((x : Int) == 224) = false := by simp; omega
  have q1 : ((x : Int) == 237) = false := by simp; omega
  have q2 : ((x : Int) == 240) = false := by simp; omega
  have q3 : ((x : Int) == 244) = false := by simp; omega
  by_cases hs : n < k + 3
  · have Hfin : Hid (sz (n - k) x y z u = 1) := by unfold Hid; rw [hsz]; (repeat' split) <;> omega
    have hs' : (n : Int) - (k : Int) < 3 := by omega
    clear c1 c2 c3 hsz
    go_enter Tryz.func67, Tryz.ntmps67
    go_wp2
    go_ret
    exact ⟨by rw [Hfin.out]; rfl, rfl⟩
  have hs' : ¬ ((n : Int) - (k : Int) < 3) := by omega
  have e1 := c1 (by omega)
  by_cases y1 : y < 128
  · have Hfin : Hid (sz (n - k) x y z u = 1) := by unfold Hid; rw [hsz]; (repeat' split) <;> omega
    have y1' : (y : Int) < 128 := by omega
    clear c1 c2 c3 hsz
    go_enter Tryz.func67, Tryz.ntmps67
    go_wp2
    go_ret
    exact ⟨by rw [Hfin.out]; rfl, rfl⟩
  by_cases y2 : 191 < y
  · have Hfin : Hid (sz (n - k) x y z u = 1) := by unfold Hid; rw [hsz]; (repeat' split) <;> omega
    have y1' : ¬ ((y : Int) < 128) := by omega
    have y2' : 191 < (y : Int) := by omega
    clear c1 c2 c3 hsz
    go_enter Tryz.func67, Tryz.ntmps67
    go_wp2
    go_ret
    exact ⟨by rw [Hfin.out]; rfl, rfl⟩
  have y1' : ¬ ((y : Int) < 128) := by omega
  have y2' : ¬ (191 < (y : Int)) := by omega
  have e2 : 2 < 3 → w.cell? ⟨b, off + (k + 2), none⟩ = some (.int .u8 z) := fun h => c2 (by omega)
  have e3 : 3 < 3 → w.cell? ⟨b, off + (k + 3), none⟩ = some (.int .u8 u) := fun h => c3 (by omega)
  have HS := hidden' hsz
  clear c1 c2 c3 hsz
  go_enter Tryz.func67, Tryz.ntmps67
  go_wp2
  go_loop [9] (fun i => ∃ m : Nat, 2 ≤ m ∧ m ≤ 3 ∧ i = .int .i64 m ∧ (2 < m → 128 ≤ z ∧ z ≤ 191) ∧ (3 < m → 128 ≤ u ∧ u ≤ 191)) (fun i => 3 - (intOf i).toNat)
  case atStart => exact ⟨2, by omega, by omega, rfl, by omega, by omega⟩
  case round =>
    obtain ⟨m, hm2, hmk, rfl, iz, iu⟩ := hrel
    by_cases hm : m = 3
    · have Hfin : Hid (sz (n - k) x y z u = 3) := by unfold Hid; rw [HS.out]; (repeat' split) <;> omega
      clear HS e2 e3
      subst hm
      go_wp2
      go_ret
      exact ⟨by rw [Hfin.out]; rfl, rfl⟩
    by_cases hm2 : m = 2
    · subst hm2
      have cc := e2 (by omega)
      by_cases v1 : z < 128
      · have Hfin : Hid (sz (n - k) x y z u = 1) := by unfold Hid; rw [HS.out]; (repeat' split) <;> omega
        have v1' : (z : Int) < 128 := by omega
        clear HS e2 e3 iz iu
        go_wp2
        go_ret
        exact ⟨by rw [Hfin.out]; rfl, rfl⟩
      have v1' : ¬ ((z : Int) < 128) := by omega
      by_cases v2 : 191 < z
      · have Hfin : Hid (sz (n - k) x y z u = 1) := by unfold Hid; rw [HS.out]; (repeat' split) <;> omega
        have v2' : 191 < (z : Int) := by omega
        clear HS e2 e3 iz iu
        go_wp2
        go_ret
        exact ⟨by rw [Hfin.out]; rfl, rfl⟩
      have v2' : ¬ (191 < (z : Int)) := by omega
      have HR : Hid (∃ m : Nat, 2 ≤ m ∧ m ≤ 3 ∧ m = 3 ∧ (2 < m → 128 ≤ z ∧ z ≤ 191) ∧ (3 < m → 128 ≤ u ∧ u ≤ 191)) := ⟨3, by omega, by omega, rfl, by omega, by omega⟩
      clear HS e2 e3 iz iu
      go_wp2
      go_round
      case rel =>
        obtain ⟨m, g1, g2, g3, g4, g5⟩ := HR.out
        exact ⟨m, g1, g2, by rw [g3]; rfl, g4, g5⟩
      case measure => simp [intOf]
    · omega

set_option maxHeartbeats 1000000 in
set_option maxRecDepth 100000 in
theorem size_ED (b off n cap k x y z u : Nat) (w : World) (hn : n ≤ 9223372036854775806) (hk : k < n) (hx : x = 237) (c0 : w.cell? ⟨b, off + k, none⟩ = some (.int .u8 x))
    (c1 : k + 1 < n → w.cell? ⟨b, off + (k + 1), none⟩ = some (.int .u8 y)) (c2 : k + 2 < n → w.cell? ⟨b, off + (k + 2), none⟩ = some (.int .u8 z)) (c3 : k + 3 < n → w.cell? ⟨b, off + (k + 3), none⟩ = some (.int .u8 u)) (hy : y < 256) (hz : z < 256) (hu : u < 256) :
    Calls Tryz.prog 67 #[.slice (some ⟨b, off, none⟩) n cap, .int .i64 k] w fun e w' => e = .returned (.int .i64 (sz (n - k) x y z u)) ∧ w' = w := by
  have hl : lead x = 3 := by unfold lead; (repeat' split) <;> omega
  have hlo : low x = 128 := by unfold low; (repeat' split) <;> omega
  have hhi : high x = 159 := by unfold high; (repeat' split) <;> omega
  have hsz : sz (n - k) x y z u = if n - k < 3 ∨ y < 128 ∨ 159 < y then 1 else if 3 ≤ 3 ∧ (z < 128 ∨ 191 < z) then 1 else if 4 ≤ 3 ∧ (u < 128 ∨ 191 < u) then 1 else 3 := by
    unfold sz; rw [hl, hlo, hhi]; simp
  clear hl hlo hhi
  have h0 : ¬ ((k : Int) < 0) := by omega
  have h1 : ¬ ((k : Int) ≥ (n : Int)) := by omega
  subst hx
  by_cases hs : n < k + 3
  · have Hfin : Hid (sz (n - k) 237 y z u = 1) := by unfold Hid; rw [hsz]; (repeat' split) <;> omega
    have hs' : (n : Int) - (k : Int) < 3 := by omega
    clear c1 c2 c3 hsz
    go_enter Tryz.func67, Tryz.ntmps67
    go_wp2
    go_ret
    exact ⟨by rw [Hfin.out]; rfl, rfl⟩
  have hs' : ¬ ((n : Int) - (k : Int) < 3) := by omega
  have e1 := c1 (by omega)
  by_cases y1 : y < 128
  · have Hfin : Hid (sz (n - k) 237 y z u = 1) := by unfold Hid; rw [hsz]; (repeat' split) <;> omega
    have y1' : (y : Int) < 128 := by omega
    clear c1 c2 c3 hsz
    go_enter Tryz.func67, Tryz.ntmps67
    go_wp2
    go_ret
    exact ⟨by rw [Hfin.out]; rfl, rfl⟩
  by_cases y2 : 159 < y
  · have Hfin : Hid (sz (n - k) 237 y z u = 1) := by unfold Hid; rw [hsz]; (repeat' split) <;> omega
    have y1' : ¬ ((y : Int) < 128) := by omega
    have y2' : 159 < (y : Int) := by omega
    clear c1 c2 c3 hsz
    go_enter Tryz.func67, Tryz.ntmps67
    go_wp2
    go_ret
    exact ⟨by rw [Hfin.out]; rfl, rfl⟩
  have y1' : ¬ ((y : Int) < 128) := by omega
  have y2' : ¬ (159 < (y : Int)) := by omega
  have e2 : 2 < 3 → w.cell? ⟨b, off + (k + 2), none⟩ = some (.int .u8 z) := fun h => c2 (by omega)
  have e3 : 3 < 3 → w.cell? ⟨b, off + (k + 3), none⟩ = some (.int .u8 u) := fun h => c3 (by omega)
  have HS := hidden' hsz
  clear c1 c2 c3 hsz
  go_enter Tryz.func67, Tryz.ntmps67
  go_wp2
  go_loop [9] (fun i => ∃ m : Nat, 2 ≤ m ∧ m ≤ 3 ∧ i = .int .i64 m ∧ (2 < m → 128 ≤ z ∧ z ≤ 191) ∧ (3 < m → 128 ≤ u ∧ u ≤ 191)) (fun i => 3 - (intOf i).toNat)
  case atStart => exact ⟨2, by omega, by omega, rfl, by omega, by omega⟩
  case round =>
    obtain ⟨m, hm2, hmk, rfl, iz, iu⟩ := hrel
    by_cases hm : m = 3
    · have Hfin : Hid (sz (n - k) 237 y z u = 3) := by unfold Hid; rw [HS.out]; (repeat' split) <;> omega
      clear HS e2 e3
      subst hm
      go_wp2
      go_ret
      exact ⟨by rw [Hfin.out]; rfl, rfl⟩
    by_cases hm2 : m = 2
    · subst hm2
      have cc := e2 (by omega)
      by_cases v1 : z < 128
      · have Hfin : Hid (sz (n - k) 237 y z u = 1) := by unfold Hid; rw [HS.out]; (repeat' split) <;> omega
        have v1' : (z : Int) < 128 := by omega
        clear HS e2 e3 iz iu
        go_wp2
        go_ret
        exact ⟨by rw [Hfin.out]; rfl, rfl⟩
      have v1' : ¬ ((z : Int) < 128) := by omega
      by_cases v2 : 191 < z
      · have Hfin : Hid (sz (n - k) 237 y z u = 1) := by unfold Hid; rw [HS.out]; (repeat' split) <;> omega
        have v2' : 191 < (z : Int) := by omega
        clear HS e2 e3 iz iu
        go_wp2
        go_ret
        exact ⟨by rw [Hfin.out]; rfl, rfl⟩
      have v2' : ¬ (191 < (z : Int)) := by omega
      have HR : Hid (∃ m : Nat, 2 ≤ m ∧ m ≤ 3 ∧ m = 3 ∧ (2 < m → 128 ≤ z ∧ z ≤ 191) ∧ (3 < m → 128 ≤ u ∧ u ≤ 191)) := ⟨3, by omega, by omega, rfl, by omega, by omega⟩
      clear HS e2 e3 iz iu
      go_wp2
      go_round
      case rel =>
        obtain ⟨m, g1, g2, g3, g4, g5⟩ := HR.out
        exact ⟨m, g1, g2, by rw [g3]; rfl, g4, g5⟩
      case measure => simp [intOf]
    · omega

set_option maxHeartbeats 1000000 in
set_option maxRecDepth 100000 in
theorem size_EE (b off n cap k x y z u : Nat) (w : World) (hn : n ≤ 9223372036854775806) (hk : k < n) (hx : 238 ≤ x ∧ x ≤ 239) (c0 : w.cell? ⟨b, off + k, none⟩ = some (.int .u8 x))
    (c1 : k + 1 < n → w.cell? ⟨b, off + (k + 1), none⟩ = some (.int .u8 y)) (c2 : k + 2 < n → w.cell? ⟨b, off + (k + 2), none⟩ = some (.int .u8 z)) (c3 : k + 3 < n → w.cell? ⟨b, off + (k + 3), none⟩ = some (.int .u8 u)) (hy : y < 256) (hz : z < 256) (hu : u < 256) :
    Calls Tryz.prog 67 #[.slice (some ⟨b, off, none⟩) n cap, .int .i64 k] w fun e w' => e = .returned (.int .i64 (sz (n - k) x y z u)) ∧ w' = w := by
  have hl : lead x = 3 := by unfold lead; (repeat' split) <;> omega
  have hlo : low x = 128 := by unfold low; (repeat' split) <;> omega
  have hhi : high x = 191 := by unfold high; (repeat' split) <;> omega
  have hsz : sz (n - k) x y z u = if n - k < 3 ∨ y < 128 ∨ 191 < y then 1 else if 3 ≤ 3 ∧ (z < 128 ∨ 191 < z) then 1 else if 4 ≤ 3 ∧ (u < 128 ∨ 191 < u) then 1 else 3 := by
    unfold sz; rw [hl, hlo, hhi]; simp
  clear hl hlo hhi
  have h0 : ¬ ((k : Int) < 0) := by omega
  have h1 : ¬ ((k : Int) ≥ (n : Int)) := by omega
  have q0 : ((x : Int) == 224) = false := by simp; omega
  have q1 : ((x : Int) == 237) = false := by simp; omega
  have q2 : ((x : Int) == 240) = false := by simp; omega
  have q3 : ((x : Int) == 244) = false := by simp; omega
  by_cases hs : n < k + 3
  · have Hfin : Hid (sz (n - k) x y z u = 1) := by unfold Hid; rw [hsz]; (repeat' split) <;> omega
    have hs' : (n : Int) - (k : Int) < 3 := by omega
    clear c1 c2 c3 hsz
    go_enter Tryz.func67, Tryz.ntmps67
    go_wp2
    go_ret
    exact ⟨by rw [Hfin.out]; rfl, rfl⟩
  have hs' : ¬ ((n : Int) - (k : Int) < 3) := by omega
  have e1 := c1 (by omega)
  by_cases y1 : y < 128
  · have Hfin : Hid (sz (n - k) x y z u = 1) := by unfold Hid; rw [hsz]; (repeat' split) <;> omega
    have y1' : (y : Int) < 128 := by omega
    clear c1 c2 c3 hsz
    go_enter Tryz.func67, Tryz.ntmps67
    go_wp2
    go_ret
    exact ⟨by rw [Hfin.out]; rfl, rfl⟩
  by_cases y2 : 191 < y
  · have Hfin : Hid (sz (n - k) x y z u = 1) := by unfold Hid; rw [hsz]; (repeat' split) <;> omega
    have y1' : ¬ ((y : Int) < 128) := by omega
    have y2' : 191 < (y : Int) := by omega
    clear c1 c2 c3 hsz
    go_enter Tryz.func67, Tryz.ntmps67
    go_wp2
    go_ret
    exact ⟨by rw [Hfin.out]; rfl, rfl⟩
  have y1' : ¬ ((y : Int) < 128) := by omega
  have y2' : ¬ (191 < (y : Int)) := by omega
  have e2 : 2 < 3 → w.cell? ⟨b, off + (k + 2), none⟩ = some (.int .u8 z) := fun h => c2 (by omega)
  have e3 : 3 < 3 → w.cell? ⟨b, off + (k + 3), none⟩ = some (.int .u8 u) := fun h => c3 (by omega)
  have HS := hidden' hsz
  clear c1 c2 c3 hsz
  go_enter Tryz.func67, Tryz.ntmps67
  go_wp2
  go_loop [9] (fun i => ∃ m : Nat, 2 ≤ m ∧ m ≤ 3 ∧ i = .int .i64 m ∧ (2 < m → 128 ≤ z ∧ z ≤ 191) ∧ (3 < m → 128 ≤ u ∧ u ≤ 191)) (fun i => 3 - (intOf i).toNat)
  case atStart => exact ⟨2, by omega, by omega, rfl, by omega, by omega⟩
  case round =>
    obtain ⟨m, hm2, hmk, rfl, iz, iu⟩ := hrel
    by_cases hm : m = 3
    · have Hfin : Hid (sz (n - k) x y z u = 3) := by unfold Hid; rw [HS.out]; (repeat' split) <;> omega
      clear HS e2 e3
      subst hm
      go_wp2
      go_ret
      exact ⟨by rw [Hfin.out]; rfl, rfl⟩
    by_cases hm2 : m = 2
    · subst hm2
      have cc := e2 (by omega)
      by_cases v1 : z < 128
      · have Hfin : Hid (sz (n - k) x y z u = 1) := by unfold Hid; rw [HS.out]; (repeat' split) <;> omega
        have v1' : (z : Int) < 128 := by omega
        clear HS e2 e3 iz iu
        go_wp2
        go_ret
        exact ⟨by rw [Hfin.out]; rfl, rfl⟩
      have v1' : ¬ ((z : Int) < 128) := by omega
      by_cases v2 : 191 < z
      · have Hfin : Hid (sz (n - k) x y z u = 1) := by unfold Hid; rw [HS.out]; (repeat' split) <;> omega
        have v2' : 191 < (z : Int) := by omega
        clear HS e2 e3 iz iu
        go_wp2
        go_ret
        exact ⟨by rw [Hfin.out]; rfl, rfl⟩
      have v2' : ¬ (191 < (z : Int)) := by omega
      have HR : Hid (∃ m : Nat, 2 ≤ m ∧ m ≤ 3 ∧ m = 3 ∧ (2 < m → 128 ≤ z ∧ z ≤ 191) ∧ (3 < m → 128 ≤ u ∧ u ≤ 191)) := ⟨3, by omega, by omega, rfl, by omega, by omega⟩
      clear HS e2 e3 iz iu
      go_wp2
      go_round
      case rel =>
        obtain ⟨m, g1, g2, g3, g4, g5⟩ := HR.out
        exact ⟨m, g1, g2, by rw [g3]; rfl, g4, g5⟩
      case measure => simp [intOf]
    · omega

set_option maxHeartbeats 1000000 in
set_option maxRecDepth 100000 in
theorem size_F0 (b off n cap k x y z u : Nat) (w : World) (hn : n ≤ 9223372036854775806) (hk : k < n) (hx : x = 240) (c0 : w.cell? ⟨b, off + k, none⟩ = some (.int .u8 x))
    (c1 : k + 1 < n → w.cell? ⟨b, off + (k + 1), none⟩ = some (.int .u8 y)) (c2 : k + 2 < n → w.cell? ⟨b, off + (k + 2), none⟩ = some (.int .u8 z)) (c3 : k + 3 < n → w.cell? ⟨b, off + (k + 3), none⟩ = some (.int .u8 u)) (hy : y < 256) (hz : z < 256) (hu : u < 256) :
    Calls Tryz.prog 67 #[.slice (some ⟨b, off, none⟩) n cap, .int .i64 k] w fun e w' => e = .returned (.int .i64 (sz (n - k) x y z u)) ∧ w' = w := by
  have hl : lead x = 4 := by unfold lead; (repeat' split) <;> omega
  have hlo : low x = 144 := by unfold low; (repeat' split) <;> omega
  have hhi : high x = 191 := by unfold high; (repeat' split) <;> omega
  have hsz : sz (n - k) x y z u = if n - k < 4 ∨ y < 144 ∨ 191 < y then 1 else if 3 ≤ 4 ∧ (z < 128 ∨ 191 < z) then 1 else if 4 ≤ 4 ∧ (u < 128 ∨ 191 < u) then 1 else 4 := by
    unfold sz; rw [hl, hlo, hhi]; simp
  clear hl hlo hhi
  have h0 : ¬ ((k : Int) < 0) := by omega
  have h1 : ¬ ((k : Int) ≥ (n : Int)) := by omega
  subst hx
  by_cases hs : n < k + 4
  · have Hfin : Hid (sz (n - k) 240 y z u = 1) := by unfold Hid; rw [hsz]; (repeat' split) <;> omega
    have hs' : (n : Int) - (k : Int) < 4 := by omega
    clear c1 c2 c3 hsz
    go_enter Tryz.func67, Tryz.ntmps67
    go_wp2
    go_ret
    exact ⟨by rw [Hfin.out]; rfl, rfl⟩
  have hs' : ¬ ((n : Int) - (k : Int) < 4) := by omega
  have e1 := c1 (by omega)
  by_cases y1 : y < 144
  · have Hfin : Hid (sz (n - k) 240 y z u = 1) := by unfold Hid; rw [hsz]; (repeat' split) <;> omega
    have y1' : (y : Int) < 144 := by omega
    clear c1 c2 c3 hsz
    go_enter Tryz.func67, Tryz.ntmps67
    go_wp2
    go_ret
    exact ⟨by rw [Hfin.out]; rfl, rfl⟩
  by_cases y2 : 191 < y
  · have Hfin : Hid (sz (n - k) 240 y z u = 1) := by unfold Hid; rw [hsz]; (repeat' split) <;> omega
    have y1' : ¬ ((y : Int) < 144) := by omega
    have y2' : 191 < (y : Int) := by omega
    clear c1 c2 c3 hsz
    go_enter Tryz.func67, Tryz.ntmps67
    go_wp2
    go_ret
    exact ⟨by rw [Hfin.out]; rfl, rfl⟩
  have y1' : ¬ ((y : Int) < 144) := by omega
  have y2' : ¬ (191 < (y : Int)) := by omega
  have e2 : 2 < 4 → w.cell? ⟨b, off + (k + 2), none⟩ = some (.int .u8 z) := fun h => c2 (by omega)
  have e3 : 3 < 4 → w.cell? ⟨b, off + (k + 3), none⟩ = some (.int .u8 u) := fun h => c3 (by omega)
  have HS := hidden' hsz
  clear c1 c2 c3 hsz
  go_enter Tryz.func67, Tryz.ntmps67
  go_wp2
  go_loop [9] (fun i => ∃ m : Nat, 2 ≤ m ∧ m ≤ 4 ∧ i = .int .i64 m ∧ (2 < m → 128 ≤ z ∧ z ≤ 191) ∧ (3 < m → 128 ≤ u ∧ u ≤ 191)) (fun i => 4 - (intOf i).toNat)
  case atStart => exact ⟨2, by omega, by omega, rfl, by omega, by omega⟩
  case round =>
    obtain ⟨m, hm2, hmk, rfl, iz, iu⟩ := hrel
    by_cases hm : m = 4
    · have Hfin : Hid (sz (n - k) 240 y z u = 4) := by unfold Hid; rw [HS.out]; (repeat' split) <;> omega
      clear HS e2 e3
      subst hm
      go_wp2
      go_ret
      exact ⟨by rw [Hfin.out]; rfl, rfl⟩
    by_cases hm2 : m = 2
    · subst hm2
      have cc := e2 (by omega)
      by_cases v1 : z < 128
      · have Hfin : Hid (sz (n - k) 240 y z u = 1) := by unfold Hid; rw [HS.out]; (repeat' split) <;> omega
        have v1' : (z : Int) < 128 := by omega
        clear HS e2 e3 iz iu
        go_wp2
        go_ret
        exact ⟨by rw [Hfin.out]; rfl, rfl⟩
      have v1' : ¬ ((z : Int) < 128) := by omega
      by_cases v2 : 191 < z
      · have Hfin : Hid (sz (n - k) 240 y z u = 1) := by unfold Hid; rw [HS.out]; (repeat' split) <;> omega
        have v2' : 191 < (z : Int) := by omega
        clear HS e2 e3 iz iu
        go_wp2
        go_ret
        exact ⟨by rw [Hfin.out]; rfl, rfl⟩
      have v2' : ¬ (191 < (z : Int)) := by omega
      have HR : Hid (∃ m : Nat, 2 ≤ m ∧ m ≤ 4 ∧ m = 3 ∧ (2 < m → 128 ≤ z ∧ z ≤ 191) ∧ (3 < m → 128 ≤ u ∧ u ≤ 191)) := ⟨3, by omega, by omega, rfl, by omega, by omega⟩
      clear HS e2 e3 iz iu
      go_wp2
      go_round
      case rel =>
        obtain ⟨m, g1, g2, g3, g4, g5⟩ := HR.out
        exact ⟨m, g1, g2, by rw [g3]; rfl, g4, g5⟩
      case measure => simp [intOf]
    by_cases hm3 : m = 3
    · subst hm3
      have cc := e3 (by omega)
      by_cases v1 : u < 128
      · have Hfin : Hid (sz (n - k) 240 y z u = 1) := by unfold Hid; rw [HS.out]; (repeat' split) <;> omega
        have v1' : (u : Int) < 128 := by omega
        clear HS e2 e3 iz iu
        go_wp2
        go_ret
        exact ⟨by rw [Hfin.out]; rfl, rfl⟩
      have v1' : ¬ ((u : Int) < 128) := by omega
      by_cases v2 : 191 < u
      · have Hfin : Hid (sz (n - k) 240 y z u = 1) := by unfold Hid; rw [HS.out]; (repeat' split) <;> omega
        have v2' : 191 < (u : Int) := by omega
        clear HS e2 e3 iz iu
        go_wp2
        go_ret
        exact ⟨by rw [Hfin.out]; rfl, rfl⟩
      have v2' : ¬ (191 < (u : Int)) := by omega
      have HR : Hid (∃ m : Nat, 2 ≤ m ∧ m ≤ 4 ∧ m = 4 ∧ (2 < m → 128 ≤ z ∧ z ≤ 191) ∧ (3 < m → 128 ≤ u ∧ u ≤ 191)) := ⟨4, by omega, by omega, rfl, by omega, by omega⟩
      clear HS e2 e3 iz iu
      go_wp2
      go_round
      case rel =>
        obtain ⟨m, g1, g2, g3, g4, g5⟩ := HR.out
        exact ⟨m, g1, g2, by rw [g3]; rfl, g4, g5⟩
      case measure => simp [intOf]
    · omega

set_option maxHeartbeats 1000000 in
set_option maxRecDepth 100000 in
theorem size_F1 (b off n cap k x y z u : Nat) (w : World) (hn : n ≤ 9223372036854775806) (hk : k < n) (hx : 241 ≤ x ∧ x ≤ 243) (c0 : w.cell? ⟨b, off + k, none⟩ = some (.int .u8 x))
    (c1 : k + 1 < n → w.cell? ⟨b, off + (k + 1), none⟩ = some (.int .u8 y)) (c2 : k + 2 < n → w.cell? ⟨b, off + (k + 2), none⟩ = some (.int .u8 z)) (c3 : k + 3 < n → w.cell? ⟨b, off + (k + 3), none⟩ = some (.int .u8 u)) (hy : y < 256) (hz : z < 256) (hu : u < 256) :
    Calls Tryz.prog 67 #[.slice (some ⟨b, off, none⟩) n cap, .int .i64 k] w fun e w' => e = .returned (.int .i64 (sz (n - k) x y z u)) ∧ w' = w := by
  have hl : lead x = 4 := by unfold lead; (repeat' split) <;> omega
  have hlo : low x = 128 := by unfold low; (repeat' split) <;> omega
  have hhi : high x = 191 := by unfold high; (repeat' split) <;> omega
  have hsz : sz (n - k) x y z u = if n - k < 4 ∨ y < 128 ∨ 191 < y then 1 else if 3 ≤ 4 ∧ (z < 128 ∨ 191 < z) then 1 else if 4 ≤ 4 ∧ (u < 128 ∨ 191 < u) then 1 else 4 := by
    unfold sz; rw [hl, hlo, hhi]; simp
  clear hl hlo hhi
  have h0 : ¬ ((k : Int) < 0) := by omega
  have h1 : ¬ ((k : Int) ≥ (n : Int)) := by omega
  have q0 : ((x : Int) == 224) = false := by simp; omega
  have q1 : ((x : Int) == 237) = false := by simp; omega
  have q2 : ((x : Int) == 240) = false := by simp; omega
  have q3 : ((x : Int) == 244) = false := by simp; omega
  by_cases hs : n < k + 4
  · have Hfin : Hid (sz (n - k) x y z u = 1) := by unfold Hid; rw [hsz]; (repeat' split) <;> omega
    have hs' : (n : Int) - (k : Int) < 4 := by omega
    clear c1 c2 c3 hsz
    go_enter Tryz.func67, Tryz.ntmps67
    go_wp2
    go_ret
    exact ⟨by rw [Hfin.out]; rfl, rfl⟩
  have hs' : ¬ ((n : Int) - (k : Int) < 4) := by omega
  have e1 := c1 (by omega)
  by_cases y1 : y < 128
  · have Hfin : Hid (sz (n - k) x y z u = 1) := by unfold Hid; rw [hsz]; (repeat' split) <;> omega
    have y1' : (y : Int) < 128 := by omega
    clear c1 c2 c3 hsz
    go_enter Tryz.func67, Tryz.ntmps67
    go_wp2
    go_ret
    exact ⟨by rw [Hfin.out]; rfl, rfl⟩
  by_cases y2 : 191 < y
  · have Hfin : Hid (sz (n - k) x y z u = 1) := by unfold Hid; rw [hsz]; (repeat' split) <;> omega
    have y1' : ¬ ((y : Int) < 128) := by omega
    have y2' : 191 < (y : Int) := by omega
    clear c1 c2 c3 hsz
    go_enter Tryz.func67, Tryz.ntmps67
    go_wp2
    go_ret
    exact ⟨by rw [Hfin.out]; rfl, rfl⟩
  have y1' : ¬ ((y : Int) < 128) := by omega
  have y2' : ¬ (191 < (y : Int)) := by omega
  have e2 : 2 < 4 → w.cell? ⟨b, off + (k + 2), none⟩ = some (.int .u8 z) := fun h => c2 (by omega)
  have e3 : 3 < 4 → w.cell? ⟨b, off + (k + 3), none⟩ = some (.int .u8 u) := fun h => c3 (by omega)
  have HS := hidden' hsz
  clear c1 c2 c3 hsz
  go_enter Tryz.func67, Tryz.ntmps67
  go_wp2
  go_loop [9] (fun i => ∃ m : Nat, 2 ≤ m ∧ m ≤ 4 ∧ i = .int .i64 m ∧ (2 < m → 128 ≤ z ∧ z ≤ 191) ∧ (3 < m → 128 ≤ u ∧ u ≤ 191)) (fun i => 4 - (intOf i).toNat)
  case atStart => exact ⟨2, by omega, by omega, rfl, by omega, by omega⟩
  case round =>
    obtain ⟨m, hm2, hmk, rfl, iz, iu⟩ := hrel
    by_cases hm : m = 4
    · have Hfin : Hid (sz (n - k) x y z u = 4) := by unfold Hid; rw [HS.out]; (repeat' split) <;> omega
      clear HS e2 e3
      subst hm
      go_wp2
      go_ret
      exact ⟨by rw [Hfin.out]; rfl, rfl⟩
    by_cases hm2 : m = 2
    · subst hm2
      have cc := e2 (by omega)
      by_cases v1 : z < 128
      · have Hfin : Hid (sz (n - k) x y z u = 1) := by unfold Hid; rw [HS.out]; (repeat' split) <;> omega
        have v1' : (z : Int) < 128 := by omega
        clear HS e2 e3 iz iu
        go_wp2
        go_ret
        exact ⟨by rw [Hfin.out]; rfl, rfl⟩
      have v1' : ¬ ((z : Int) < 128) := by omega
      by_cases v2 : 191 < z
      · have Hfin : Hid (sz (n - k) x y z u = 1) := by unfold Hid; rw [HS.out]; (repeat' split) <;> omega
        have v2' : 191 < (z : Int) := by omega
        clear HS e2 e3 iz iu
        go_wp2
        go_ret
        exact ⟨by rw [Hfin.out]; rfl, rfl⟩
      have v2' : ¬ (191 < (z : Int)) := by omega
      have HR : Hid (∃ m : Nat, 2 ≤ m ∧ m ≤ 4 ∧ m = 3 ∧ (2 < m → 128 ≤ z ∧ z ≤ 191) ∧ (3 < m → 128 ≤ u ∧ u ≤ 191)) := ⟨3, by omega, by omega, rfl, by omega, by omega⟩
      clear HS e2 e3 iz iu
      go_wp2
      go_round
      case rel =>
        obtain ⟨m, g1, g2, g3, g4, g5⟩ := HR.out
        exact ⟨m, g1, g2, by rw [g3]; rfl, g4, g5⟩
      case measure => simp [intOf]
    by_cases hm3 : m = 3
    · subst hm3
      have cc := e3 (by omega)
      by_cases v1 : u < 128
      · have Hfin : Hid (sz (n - k) x y z u = 1) := by unfold Hid; rw [HS.out]; (repeat' split) <;> omega
        have v1' : (u : Int) < 128 := by omega
        clear HS e2 e3 iz iu
        go_wp2
        go_ret
        exact ⟨by rw [Hfin.out]; rfl, rfl⟩
      have v1' : ¬ ((u : Int) < 128) := by omega
      by_cases v2 : 191 < u
      · have Hfin : Hid (sz (n - k) x y z u = 1) := by unfold Hid; rw [HS.out]; (repeat' split) <;> omega
        have v2' : 191 < (u : Int) := by omega
        clear HS e2 e3 iz iu
        go_wp2
        go_ret
        exact ⟨by rw [Hfin.out]; rfl, rfl⟩
      have v2' : ¬ (191 < (u : Int)) := by omega
      have HR : Hid (∃ m : Nat, 2 ≤ m ∧ m ≤ 4 ∧ m = 4 ∧ (2 < m → 128 ≤ z ∧ z ≤ 191) ∧ (3 < m → 128 ≤ u ∧ u ≤ 191)) := ⟨4, by omega, by omega, rfl, by omega, by omega⟩
      clear HS e2 e3 iz iu
      go_wp2
      go_round
      case rel =>
        obtain ⟨m, g1, g2, g3, g4, g5⟩ := HR.out
        exact ⟨m, g1, g2, by rw [g3]; rfl, g4, g5⟩
      case measure => simp [intOf]
    · omega

set_option maxHeartbeats 1000000 in
set_option maxRecDepth 100000 in
theorem size_F4 (b off n cap k x y z u : Nat) (w : World) (hn : n ≤ 9223372036854775806) (hk : k < n) (hx : x = 244) (c0 : w.cell? ⟨b, off + k, none⟩ = some (.int .u8 x))
    (c1 : k + 1 < n → w.cell? ⟨b, off + (k + 1), none⟩ = some (.int .u8 y)) (c2 : k + 2 < n → w.cell? ⟨b, off + (k + 2), none⟩ = some (.int .u8 z)) (c3 : k + 3 < n → w.cell? ⟨b, off + (k + 3), none⟩ = some (.int .u8 u)) (hy : y < 256) (hz : z < 256) (hu : u < 256) :
    Calls Tryz.prog 67 #[.slice (some ⟨b, off, none⟩) n cap, .int .i64 k] w fun e w' => e = .returned (.int .i64 (sz (n - k) x y z u)) ∧ w' = w := by
  have hl : lead x = 4 := by unfold lead; (repeat' split) <;> omega
  have hlo : low x = 128 := by unfold low; (repeat' split) <;> omega
  have hhi : high x = 143 := by unfold high; (repeat' split) <;> omega
  have hsz : sz (n - k) x y z u = if n - k < 4 ∨ y < 128 ∨ 143 < y then 1 else if 3 ≤ 4 ∧ (z < 128 ∨ 191 < z) then 1 else if 4 ≤ 4 ∧ (u < 128 ∨ 191 < u) then 1 else 4 := by
    unfold sz; rw [hl, hlo, hhi]; simp
  clear hl hlo hhi
  have h0 : ¬ ((k : Int) < 0) := by omega
  have h1 : ¬ ((k : Int) ≥ (n : Int)) := by omega
  subst hx
  by_cases hs : n < k + 4
  · have Hfin : Hid (sz (n - k) 244 y z u = 1) := by unfold Hid; rw [hsz]; (repeat' split) <;> omega
    have hs' : (n : Int) - (k : Int) < 4 := by omega
    clear c1 c2 c3 hsz
    go_enter Tryz.func67, Tryz.ntmps67
    go_wp2
    go_ret
    exact ⟨by rw [Hfin.out]; rfl, rfl⟩
  have hs' : ¬ ((n : Int) - (k : Int) < 4) := by omega
  have e1 := c1 (by omega)
  by_cases y1 : y < 128
  · have Hfin : Hid (sz (n - k) 244 y z u = 1) := by unfold Hid; rw [hsz]; (repeat' split) <;> omega
    have y1' : (y : Int) < 128 := by omega
    clear c1 c2 c3 hsz
    go_enter Tryz.func67, Tryz.ntmps67
    go_wp2
    go_ret
    exact ⟨by rw [Hfin.out]; rfl, rfl⟩
  by_cases y2 : 143 < y
  · have Hfin : Hid (sz (n - k) 244 y z u = 1) := by unfold Hid; rw [hsz]; (repeat' split) <;> omega
    have y1' : ¬ ((y : Int) < 128) := by omega
    have y2' : 143 < (y : Int) := by omega
    clear c1 c2 c3 hsz
    go_enter Tryz.func67, Tryz.ntmps67
    go_wp2
    go_ret
    exact ⟨by rw [Hfin.out]; rfl, rfl⟩
  have y1' : ¬ ((y : Int) < 128) := by omega
  have y2' : ¬ (143 < (y : Int)) := by omega
  have e2 : 2 < 4 → w.cell? ⟨b, off + (k + 2), none⟩ = some (.int .u8 z) := fun h => c2 (by omega)
  have e3 : 3 < 4 → w.cell? ⟨b, off + (k + 3), none⟩ = some (.int .u8 u) := fun h => c3 (by omega)
  have HS := hidden' hsz
  clear c1 c2 c3 hsz
  go_enter Tryz.func67, Tryz.ntmps67
  go_wp2
  go_loop [9] (fun i => ∃ m : Nat, 2 ≤ m ∧ m ≤ 4 ∧ i = .int .i64 m ∧ (2 < m → 128 ≤ z ∧ z ≤ 191) ∧ (3 < m → 128 ≤ u ∧ u ≤ 191)) (fun i => 4 - (intOf i).toNat)
  case atStart => exact ⟨2, by omega, by omega, rfl, by omega, by omega⟩
  case round =>
    obtain ⟨m, hm2, hmk, rfl, iz, iu⟩ := hrel
    by_cases hm : m = 4
    · have Hfin : Hid (sz (n - k) 244 y z u = 4) := by unfold Hid; rw [HS.out]; (repeat' split) <;> omega
      clear HS e2 e3
      subst hm
      go_wp2
      go_ret
      exact ⟨by rw [Hfin.out]; rfl, rfl⟩
    by_cases hm2 : m = 2
    · subst hm2
      have cc := e2 (by omega)
      by_cases v1 : z < 128
      · have Hfin : Hid (sz (n - k) 244 y z u = 1) := by unfold Hid; rw [HS.out]; (repeat' split) <;> omega
        have v1' : (z : Int) < 128 := by omega
        clear HS e2 e3 iz iu
        go_wp2
        go_ret
        exact ⟨by rw [Hfin.out]; rfl, rfl⟩
      have v1' : ¬ ((z : Int) < 128) := by omega
      by_cases v2 : 191 < z
      · have Hfin : Hid (sz (n - k) 244 y z u = 1) := by unfold Hid; rw [HS.out]; (repeat' split) <;> omega
        have v2' : 191 < (z : Int) := by omega
        clear HS e2 e3 iz iu
        go_wp2
        go_ret
        exact ⟨by rw [Hfin.out]; rfl, rfl⟩
      have v2' : ¬ (191 < (z : Int)) := by omega
      have HR : Hid (∃ m : Nat, 2 ≤ m ∧ m ≤ 4 ∧ m = 3 ∧ (2 < m → 128 ≤ z ∧ z ≤ 191) ∧ (3 < m → 128 ≤ u ∧ u ≤ 191)) := ⟨3, by omega, by omega, rfl, by omega, by omega⟩
      clear HS e2 e3 iz iu
      go_wp2
      go_round
      case rel =>
        obtain ⟨m, g1, g2, g3, g4, g5⟩ := HR.out
        exact ⟨m, g1, g2, by rw [g3]; rfl, g4, g5⟩
      case measure => simp [intOf]
    by_cases hm3 : m = 3
    · subst hm3
      have cc := e3 (by omega)
      by_cases v1 : u < 128
      · have Hfin : Hid (sz (n - k) 244 y z u = 1) := by unfold Hid; rw [HS.out]; (repeat' split) <;> omega
        have v1' : (u : Int) < 128 := by omega
        clear HS e2 e3 iz iu
        go_wp2
        go_ret
        exact ⟨by rw [Hfin.out]; rfl, rfl⟩
      have v1' : ¬ ((u : Int) < 128) := by omega
      by_cases v2 : 191 < u
      · have Hfin : Hid (sz (n - k) 244 y z u = 1) := by unfold Hid; rw [HS.out]; (repeat' split) <;> omega
        have v2' : 191 < (u : Int) := by omega
        clear HS e2 e3 iz iu
        go_wp2
        go_ret
        exact ⟨by rw [Hfin.out]; rfl, rfl⟩
      have v2' : ¬ (191 < (u : Int)) := by omega
      have HR : Hid (∃ m : Nat, 2 ≤ m ∧ m ≤ 4 ∧ m = 4 ∧ (2 < m → 128 ≤ z ∧ z ≤ 191) ∧ (3 < m → 128 ≤ u ∧ u ≤ 191)) := ⟨4, by omega, by omega, rfl, by omega, by omega⟩
      clear HS e2 e3 iz iu
      go_wp2
      go_round
      case rel =>
        obtain ⟨m, g1, g2, g3, g4, g5⟩ := HR.out
        exact ⟨m, g1, g2, by rw [g3]; rfl, g4, g5⟩
      case measure => simp [intOf]
    · omega


theorem size_in (f : Nat → Nat) (b off n cap k : Nat) (w : World) (hf : ∀ j, f j < 256) (hn : n ≤ 9223372036854775806) (hc : Cells w b off n f) (hk : k < n) :
    Calls Tryz.prog 67 #[.slice (some ⟨b, off, none⟩) n cap, .int .i64 k] w fun e w' => e = .returned (.int .i64 (szAt f n k)) ∧ w' = w := by
  rw [szAt_in hk]
  have c0 := hc k hk
  have c1 : k + 1 < n → w.cell? ⟨b, off + (k + 1), none⟩ = some (.int .u8 (f (k + 1))) := fun h => hc _ h
  have c2 : k + 2 < n → w.cell? ⟨b, off + (k + 2), none⟩ = some (.int .u8 (f (k + 2))) := fun h => hc _ h
  have c3 : k + 3 < n → w.cell? ⟨b, off + (k + 3), none⟩ = some (.int .u8 (f (k + 3))) := fun h => hc _ h
  have b1 := hf (k + 1)
  have b2 := hf (k + 2)
  have b3 := hf (k + 3)
  have b0 := hf k
  generalize f k = x at *
  generalize f (k + 1) = y at *
  generalize f (k + 2) = z at *
  generalize f (k + 3) = u at *
  by_cases h : x < 194 ∨ 244 < x
  · have : lead x = 1 := by unfold lead; (repeat' split) <;> omega
    have e : sz (n - k) x y z u = 1 := by unfold sz; rw [if_pos (Or.inl this)]
    rw [e]
    exact size_one b off n cap k x w hn hk c0 h b0
  by_cases g1 : x ≤ 223
  · exact size_C2 b off n cap k x y z u w hn hk (by omega) c0 c1 c2 c3 b1 b2 b3
  by_cases g2 : x = 224
  · exact size_E0 b off n cap k x y z u w hn hk g2 c0 c1 c2 c3 b1 b2 b3
  by_cases g3 : x ≤ 236
  · exact size_E1 b off n cap k x y z u w hn hk (by omega) c0 c1 c2 c3 b1 b2 b3
  by_cases g4 : x = 237
  · exact size_ED b off n cap k x y z u w hn hk g4 c0 c1 c2 c3 b1 b2 b3
  by_cases g5 : x ≤ 239
  · exact size_EE b off n cap k x y z u w hn hk (by omega) c0 c1 c2 c3 b1 b2 b3
  by_cases g6 : x = 240
  · exact size_F0 b off n cap k x y z u w hn hk g6 c0 c1 c2 c3 b1 b2 b3
  by_cases g7 : x ≤ 243
  · exact size_F1 b off n cap k x y z u w hn hk (by omega) c0 c1 c2 c3 b1 b2 b3
  exact size_F4 b off n cap k x y z u w hn hk (by omega) c0 c1 c2 c3 b1 b2 b3

theorem info3 : (Tryz.prog.info? 3).map (fun i => (i.zero, i.size, i.bytes)) = some (some (.int .i64 0), 1, 8) := by kernel_rfl
theorem info5 : (Tryz.prog.info? 5).map (fun i => (i.zero, i.size, i.bytes)) = some (some (.int .u8 0), 1, 1) := by kernel_rfl

/-- Behind an append to a row of the call's own. -/
theorem below_append {B : Nat} {e : TypeId} {w wr w1 : World} {v : Value} {n : Nat} {xs : List Value} {o : Obj} (hB : B ≤ wr.heap.size) (hown : wr.ownsRow B e 1 v n xs) (hnx : Below B w wr) (hg : (wr.alloc o).grownBy w1 v.ownBlock) : Below B w w1 :=
  (hnx.alloc hB o).grown hg (by simp; omega) (fun j hj => (hown.lt j hj).1)

def startsL (f : Nat → Nat) (n k : Nat) : List Value := (List.range k).map fun i => Value.int .i64 (nth f n i : Nat)
theorem startsL_succ (f : Nat → Nat) (n k : Nat) : startsL f n (k + 1) = startsL f n k ++ [Value.int .i64 (nth f n k : Nat)] := by
  simp [startsL, List.range_succ]

/-- A slice of c integers. -/
def IsInts (w : World) (v : Value) (c : Nat) (x : Nat → Nat) : Prop :=
  (v = .slice none 0 0 ∧ c = 0) ∨ ∃ g cap, v = .slice (some ⟨g, 0, none⟩) c cap ∧ ∀ i, i < c → w.cell? ⟨g, i, none⟩ = some (.int .i64 (x i : Nat))

theorem isInts_of {w : World} {base : Nat} {v : Value} {c : Nat} {x : Nat → Nat} (h : w.ownsRow base 3 1 v c ((List.range c).map fun i => Value.int .i64 (x i : Nat))) : IsInts w v c x := by
  obtain ⟨_, h⟩ := h
  rcases h with ⟨rfl, rfl⟩ | ⟨g, cap, cur, rfl, _, hh, hc, _, hs, ht⟩
  · exact Or.inl ⟨rfl, rfl⟩
  · refine Or.inr ⟨g, cap, rfl, fun i hi => ?_⟩
    have h1 : (cur.toList.take (c * 1))[i]? = some (Value.int .i64 (x i : Nat)) := by
      rw [ht, List.getElem?_map, List.getElem?_range hi]; rfl
    rw [List.getElem?_take, if_pos (by omega), Array.getElem?_toList] at h1
    simp only [World.cell?, hh]
    simpa using h1

theorem IsInts.below {w w' : World} {v : Value} {c : Nat} {x : Nat → Nat} (h : IsInts w v c x) (hb : Below w.heap.size w w') : IsInts w' v c x := by
  rcases h with h | ⟨g, cap, hv, hc⟩
  · exact Or.inl h
  · refine Or.inr ⟨g, cap, hv, fun i hi => ?_⟩
    have := hc i hi
    rw [hb.cell (p := ⟨g, i, none⟩) (World.block_lt_of_cell? _ _ this)]
    exact this

set_option maxHeartbeats 1000000 in
theorem starts_row (f : Nat → Nat) (b off n cap : Nat) (w : World) (hf : ∀ j, f j < 256) (hn : n ≤ 100000) (hcap : n ≤ cap) (hc : Cells w b off n f) :
    Calls Tryz.prog 47 #[.slice (some ⟨b, off, none⟩) n cap] w fun e w' => ∃ v, e = .returned v ∧ w'.ownsRow w.heap.size 3 1 v (cnt f n) (startsL f n (cnt f n)) ∧ Below w.heap.size w w' := by
  obtain ⟨i0, hi, hz0, hz1, hz2⟩ := info_parts info3
  go_enter Tryz.func47, Tryz.ntmps47
  go_wp2
  go_loopw [3, 4] (fun v a wr => ∃ k : Nat, k ≤ cnt f n ∧ a = .int .i64 (nth f n k : Nat) ∧ wr.ownsRow w.heap.size 3 1 v k (startsL f n k) ∧ Below w.heap.size w wr) (fun _ a _ => n - (intOf a).toNat)
  case atStart => exact ⟨0, Nat.zero_le _, rfl, World.ownsRow_nil _ _ _ _, Below.refl _ _⟩
  case round =>
    obtain ⟨k, hk, rfl, hown, hnx⟩ := hrel
    have hcn := cnt_le f n
    have hend : nth f n k < n ∨ (nth f n k = n ∧ k = cnt f n) := by
      by_cases hlt : nth f n k < n
      · exact Or.inl hlt
      · refine Or.inr ⟨by have := nth_le f n k; omega, ?_⟩
        have := cnt_iff f n k; omega
    rcases hend with hlt | ⟨hlt, hkc⟩
    · have hk1 : k + 1 ≤ cnt f n := (cnt_iff f n k).1 hlt
      have hs4 := szAt_le4 f n (nth f n k)
      have hs1 := szAt_pos (f := f) hlt
      have hsu := startsL_succ f n k
      have Hlt := hidden' hlt
      have Hsu := hidden' hsu
      clear hsu
      obtain ⟨A, hA⟩ : ∃ A, nth f n k = A := ⟨_, rfl⟩
      rw [hA] at hlt
      have HA := hidden' hA
      rw [hA]
      clear hA
      go_wp2_with (at_builtin; refine wpList_append_own _ rfl _ _ 49 rfl w.heap.size 3 i0 (.int .i64 0) 1 8 Tryz.underlying49 hi hz0 hz1 hz2 rfl (by decide) _ _ _ rfl (hown.alloc _) ⟨wr.heap.size, 0, none⟩ 1 1 [.int .i64 A] rfl rfl ?c1 ?c2 ?c3 ?c4 ?c5 ?_)
      case c1 =>
        intro j u hj
        match j, hj with
        | 0, hj => simp at hj; subst hj; simp [Addr.add]
      case c2 => intro u hu; simp at hu; subst hu; rfl
      case c3 => unfold maxLen; omega
      case c4 => omega
      case c5 => have := hnx.size; simp; omega
      intro v' w1 hown' hgrow _
      have hb1 := below_append hnx.size hown hnx hgrow
      have hw1 : w1.ownsRow w.heap.size 3 1 v' (k + 1) (startsL f n (k + 1)) := by rw [Hsu.out, HA.out]; exact hown'
      have cz := size_in f b off n cap A w1 hf (by omega) (hc.below hb1) hlt
      have HN : Hid (nth f n (k + 1) = A + szAt f n A) := by unfold Hid; rw [← HA.out]; rfl
      have Hb1 := hidden' hb1
      have Hw1 := hidden' hw1
      rw [HA.out] at hs4 hs1
      clear hown' hgrow hown hb1 hw1 hnx hc
      generalize szAt f n A = s at *
      go_wp2_with (go_at_call 67; refine cz.mono ?_; rintro e w2 ⟨rfl, rfl⟩)
      go_roundw
      case rel => exact ⟨k + 1, hk1, by rw [HN.out]; go_num, Hw1.out, Hb1.out⟩
      case measure => simp [intOf]; omega
    · have hz : ¬ ((nth f n k : Int) < (n : Int)) := by omega
      have Hown : Hid (wr.ownsRow w.heap.size 3 1 u3 (cnt f n) (startsL f n (cnt f n))) := by unfold Hid; rw [← hkc]; exact hown
      clear hkc hlt hown
      generalize nth f n k = A at *
      go_wp2
      go_ret
      exact ⟨_, rfl, Hown.out, hnx⟩
end Go.Proofs.PlatenGlyph
