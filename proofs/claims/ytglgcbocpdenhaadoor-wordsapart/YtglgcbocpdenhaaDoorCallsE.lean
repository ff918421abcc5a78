/- What the document's Size comes to, at any bytes and any place. -/
import Derived.Test.YtglgcbocpdenhaaDoorCallsC
namespace Go.Proofs.PlatenGlyph
open Go.RowKit Go.Shelf
set_option linter.unusedVariables false

set_option maxHeartbeats 400000 in
theorem size_out (v : Value) (f : Nat → Nat) (n : Nat) (a : Int) (w : World) (h : IsBytes w v n f) (ha : ¬ (0 ≤ a ∧ a < n)) :
    Calls Tryd.prog 35 #[v, .int .i64 a] w fun e w' => e = .returned (.int .i64 0) ∧ w' = w := by
  obtain ⟨hf, hn, h⟩ := h
  rcases h with ⟨ea, ecap, rfl, rfl⟩ | ⟨b, off, cap, rfl, hc, hr⟩
  · by_cases h0 : a < 0
    · go_enter Tryd.func35, Tryd.ntmps35
      go_wp2
      go_ret
      exact ⟨rfl, rfl⟩
    · have h1 : a ≥ 0 := by omega
      go_enter Tryd.func35, Tryd.ntmps35
      go_wp2
      go_ret
      exact ⟨rfl, rfl⟩
  · clear hr
    by_cases h0 : a < 0
    · go_enter Tryd.func35, Tryd.ntmps35
      go_wp2
      go_ret
      exact ⟨rfl, rfl⟩
    · have h1 : a ≥ (n : Int) := by omega
      go_enter Tryd.func35, Tryd.ntmps35
      go_wp2
      go_ret
      exact ⟨rfl, rfl⟩

set_option maxHeartbeats 1000000 in
/-- A byte that begins no sign of several bytes. -/
theorem size_one (b off n cap k x : Nat) (w : World) (hn : n ≤ 9223372036854775806) (hk : k < n) (hc : w.cell? ⟨b, off + k, none⟩ = some (.int .u8 x)) (hx : x < 194 ∨ 244 < x) (hxb : x < 256) :
    Calls Tryd.prog 35 #[.slice (some ⟨b, off, none⟩) n cap, .int .i64 k] w fun e w' => e = .returned (.int .i64 1) ∧ w' = w := by
  have h0 : ¬ ((k : Int) < 0) := by omega
  have h1 : ¬ ((k : Int) ≥ (n : Int)) := by omega
  have q1 : ((x : Int) == 224) = false := by simp; omega
  have q2 : ((x : Int) == 237) = false := by simp; omega
  have q3 : ((x : Int) == 240) = false := by simp; omega
  have q4 : ((x : Int) == 244) = false := by simp; omega
  rcases hx with hx | hx
  · go_enter Tryd.func35, Tryd.ntmps35
    go_wp2
    all_goals go_ret
    all_goals exact ⟨rfl, rfl⟩
  · go_enter Tryd.func35, Tryd.ntmps35
    go_wp2
    all_goals go_ret
    all_goals exact ⟨rfl, rfl⟩
theorem hidden' {p : Prop} (h : p) : Hid p := h

set_option maxHeartbeats 1000000 in
set_option maxRecDepth 100000 in
theorem size_C2 (b off n cap k x y z u : Nat) (w : World) (hn : n ≤ 9223372036854775806) (hk : k < n) (hx : 194 ≤ x ∧ x ≤ 223) (c0 : w.cell? ⟨b, off + k, none⟩ = some (.int .u8 x))
    (c1 : k + 1 < n → w.cell? ⟨b, off + (k + 1), none⟩ = some (.int .u8 y)) (c2 : k + 2 < n → w.cell? ⟨b, off + (k + 2), none⟩ = some (.int .u8 z)) (c3 : k + 3 < n → w.cell? ⟨b, off + (k + 3), none⟩ = some (.int .u8 u)) (hy : y < 256) (hz : z < 256) (hu : u < 256) :
    Calls Tryd.prog 35 #[.slice (some ⟨b, off, none⟩) n cap, .int .i64 k] w fun e w' => e = .returned (.int .i64 (sz (n - k) x y z u)) ∧ w' = w := by
  have hl : lead x = 2 := by unfold lead; (repeat' split) <;> omega
  have hlo : low x = 128 := by unfold low; (repeat' split) <;> omega
  have hhi : high x = 191 := by unfold high; (repeat' split) <;> omega
  have hsz : sz (n - k) x y z u = if n - k < 2 ∨ y < 128 ∨ 191 < y then 1 else if 3 ≤ 2 ∧ (z < 128 ∨ 191 < z) then 1 else if 4 ≤ 2 ∧ (u < 128 ∨ 191 < u) then 1 else 2 := by
    unfold sz; rw [hl, hlo, hhi]; simp
  clear hl hlo hhi
  have h0 : ¬ ((k : Int) < 0) := by omega
  have h1 : ¬ ((k : Int) ≥ (n : Int)) := by omega
  have q0 : ((x : Int) == 224) = false := by simp; omega
  have q1 : ((x : Int) == 237) = false := by simp; omega
  have q2 : ((x : Int) == 240) = false := by simp; omega
  have q3 : ((x : Int) == 244) = false := by simp; omega
  by_cases hs : n < k + 2
  · have Hfin : Hid (sz (n - k) x y z u = 1) := by unfold Hid; rw [hsz]; (repeat' split) <;> omega
    have hs' : (n : Int) - (k : Int) < 2 := by omega
    clear c1 c2 c3 hsz
    go_enter Tryd.func35, Tryd.ntmps35
    go_wp2
    go_ret
    exact ⟨by rw [Hfin.out]; rfl, rfl⟩
  have hs' : ¬ ((n : Int) - (k : Int) < 2) := by omega
  have e1 := c1 (by omega)
  by_cases y1 : y < 128
  · have Hfin : Hid (sz (n - k) x y z u = 1) := by unfold Hid; rw [hsz]; (repeat' split) <;> omega
    have y1' : (y : Int) < 128 := by omega
    clear c1 c2 c3 hsz
    go_enter Tryd.func35, Tryd.ntmps35
    go_wp2
    go_ret
    exact ⟨by rw [Hfin.out]; rfl, rfl⟩
  by_cases y2 : 191 < y
  · have Hfin : Hid (sz (n - k) x y z u = 1) := by unfold Hid; rw [hsz]; (repeat' split) <;> omega
    have y1' : ¬ ((y : Int) < 128) := by omega
    have y2' : 191 < (y : Int) := by omega
    clear c1 c2 c3 hsz
    go_enter Tryd.func35, Tryd.ntmps35
    go_wp2
    go_ret
    exact ⟨by rw [Hfin.out]; rfl, rfl⟩
  have y1' : ¬ ((y : Int) < 128) := by omega
  have y2' : ¬ (191 < (y : Int)) := by omega
  have e2 : 2 < 2 → w.cell? ⟨b, off + (k + 2), none⟩ = some (.int .u8 z) := fun h => c2 (by omega)
  have e3 : 3 < 2 → w.cell? ⟨b, off + (k + 3), none⟩ = some (.int .u8 u) := fun h => c3 (by omega)
  have HS := hidden' hsz
  clear c1 c2 c3 hsz
  go_enter Tryd.func35, Tryd.ntmps35
  go_wp2
  go_loop [9] (fun i => ∃ m : Nat, 2 ≤ m ∧ m ≤ 2 ∧ i = .int .i64 m ∧ (2 < m → 128 ≤ z ∧ z ≤ 191) ∧ (3 < m → 128 ≤ u ∧ u ≤ 191)) (fun i => 2 - (intOf i).toNat)
  case atStart => exact ⟨2, by omega, by omega, rfl, by omega, by omega⟩
  case round =>
    obtain ⟨m, hm2, hmk, rfl, iz, iu⟩ := hrel
    by_cases hm : m = 2
    · have Hfin : Hid (sz (n - k) x y z u = 2) := by unfold Hid; rw [HS.out]; (repeat' split) <;> omega
      clear HS e2 e3
      subst hm
      go_wp2
      go_ret
      exact ⟨by rw [Hfin.out]; rfl, rfl⟩
    · omega

set_option maxHeartbeats 1000000 in
set_option maxRecDepth 100000 in
theorem size_E0 (b off n cap k x y z u : Nat) (w : World) (hn : n ≤ 9223372036854775806) (hk : k < n) (hx : x = 224) (c0 : w.cell? ⟨b, off + k, none⟩ = some (.int .u8 x))
    (c1 : k + 1 < n → w.cell? ⟨b, off + (k + 1), none⟩ = some (.int .u8 y)) (c2 : k + 2 < n → w.cell? ⟨b, off + (k + 2), none⟩ = some (.int .u8 z)) (c3 : k + 3 < n → w.cell? ⟨b, off + (k + 3), none⟩ = some (.int .u8 u)) (hy : y < 256) (hz : z < 256) (hu : u < 256) :
    Calls Tryd.prog 35 #[.slice (some ⟨b, off, none⟩) n cap, .int .i64 k] w fun e w' => e = .returned (.int .i64 (sz (n - k) x y z u)) ∧ w' = w := by
  have hl : lead x = 3 := by unfold lead; (repeat' split) <;> omega
  have hlo : low x = 160 := by unfold low; (repeat' split) <;> omega
  have hhi : high x = 191 := by unfold high; (repeat' split) <;> omega
  have hsz : sz (n - k) x y z u = if n - k < 3 ∨ y < 160 ∨ 191 < y then 1 else if 3 ≤ 3 ∧ (z < 128 ∨ 191 < z) then 1 else if 4 ≤ 3 ∧ (u < 128 ∨ 191 < u) then 1 else 3 := by
    unfold sz; rw [hl, hlo, hhi]; simp
  clear hl hlo hhi
  have h0 : ¬ ((k : Int) < 0) := by omega
  have h1 : ¬ ((k : Int) ≥ (n : Int)) := by omega
  subst hx
  by_cases hs : n < k + 3
  · have Hfin : Hid (sz (n - k) 224 y z u = 1) := by unfold Hid; rw [hsz]; (repeat' split) <;> omega
    have hs' : (n : Int) - (k : Int) < 3 := by omega
    clear c1 c2 c3 hsz
    go_enter Tryd.func35, Tryd.ntmps35
    go_wp2
    go_ret
    exact ⟨by rw [Hfin.out]; rfl, rfl⟩
  have hs' : ¬ ((n : Int) - (k : Int) < 3) := by omega
  have e1 := c1 (by omega)
  by_cases y1 : y < 160
  · have Hfin : Hid (sz (n - k) 224 y z u = 1) := by unfold Hid; rw [hsz]; (repeat' split) <;> omega
    have y1' : (y : Int) < 160 := by omega
    clear c1 c2 c3 hsz
    go_enter Tryd.func35, Tryd.ntmps35
    go_wp2
    go_ret
    exact ⟨by rw [Hfin.out]; rfl, rfl⟩
  by_cases y2 : 191 < y
  · have Hfin : Hid (sz (n - k) 224 y z u = 1) := by unfold Hid; rw [hsz]; (repeat' split) <;> omega
    have y1' : ¬ ((y : Int) < 160) := by omega
    have y2' : 191 < (y : Int) := by omega
    clear c1 c2 c3 hsz
    go_enter Tryd.func35, Tryd.ntmps35
    go_wp2
    go_ret
    exact ⟨by rw [Hfin.out]; rfl, rfl⟩
  have y1' : ¬ ((y : Int) < 160) := by omega
  have y2' : ¬ (191 < (y : Int)) := by omega
  have e2 : 2 < 3 → w.cell? ⟨b, off + (k + 2), none⟩ = some (.int .u8 z) := fun h => c2 (by omega)
  have e3 : 3 < 3 → w.cell? ⟨b, off + (k + 3), none⟩ = some (.int .u8 u) := fun h => c3 (by omega)
  have HS := hidden' hsz
  clear c1 c2 c3 hsz
  go_enter Tryd.func35, Tryd.ntmps35
  go_wp2
  go_loop [9] (fun i => ∃ m : Nat, 2 ≤ m ∧ m ≤ 3 ∧ i = .int .i64 m ∧ (2 < m → 128 ≤ z ∧ z ≤ 191) ∧ (3 < m → 128 ≤ u ∧ u ≤ 191)) (fun i => 3 - (intOf i).toNat)
  case atStart => exact ⟨2, by omega, by omega, rfl, by omega, by omega⟩
  case round =>
    obtain ⟨m, hm2, hmk, rfl, iz, iu⟩ := hrel
    by_cases hm : m = 3
    · have Hfin : Hid (sz (n - k) 224 y z u = 3) := by unfold Hid; rw [HS.out]; (repeat' split) <;> omega
      clear HS e2 e3
      subst hm
      go_wp2
      go_ret
      exact ⟨by rw [Hfin.out]; rfl, rfl⟩
    by_cases hm2 : m = 2
    · subst hm2
      have cc := e2 (by omega)
      by_cases v1 : z < 128
      · have Hfin : Hid (sz (n - k) 224 y z u = 1) := by unfold Hid; rw [HS.out]; (repeat' split) <;> omega
        have v1' : (z : Int) < 128 := by omega
        clear HS e2 e3 iz iu
        go_wp2
        go_ret
        exact ⟨by rw [Hfin.out]; rfl, rfl⟩
      have v1' : ¬ ((z : Int) < 128) := by omega
      by_cases v2 : 191 < z
      · have Hfin : Hid (sz (n - k) 224 y z u = 1) := by unfold Hid; rw [HS.out]; (repeat' split) <;> omega
        have v2' : 191 < (z : Int) := by omega
        clear HS e2 e3 iz iu
        go_wp2
        go_ret
        exact ⟨by rw [Hfin.out]; rfl, rfl⟩
      have v2' : ¬ (191 < (z : Int)) := by omega
      have HR : Hid (∃ m : Nat, 2 ≤ m ∧ m ≤ 3 ∧ m = 3 ∧ (2 < m → 128 ≤ z ∧ z ≤ 191) ∧ (3 < m → 128 ≤ u ∧ u ≤ 191)) := ⟨3, by omega, by omega, rfl, by omega, by omega⟩
      clear HS e2 e3 iz iu
      go_wp2
      go_round
      case rel =>
        obtain ⟨m, g1, g2, g3, g4, g5⟩ := HR.out
        exact ⟨m, g1, g2, by rw [g3]; rfl, g4, g5⟩
      case measure => simp [intOf]
    · omega

set_option maxHeartbeats 1000000 in
set_option maxRecDepth 100000 in
theorem size_E1 (b off n cap k x y z u : Nat) (w : World) (hn : n ≤ 9223372036854775806) (hk : k < n) (hx : 225 ≤ x ∧ x ≤ 236) (c0 : w.cell? ⟨b, off + k, none⟩ = some (.int .u8 x))
    (c1 : k + 1 < n → w.cell? ⟨b, off + (k + 1), none⟩ = some (.int .u8 y)) (c2 : k + 2 < n → w.cell? ⟨b, off + (k + 2), none⟩ = some (.int .u8 z)) (c3 : k + 3 < n → w.cell? ⟨b, off + (k + 3), none⟩ = some (.int .u8 u)) (hy : y < 256) (hz : z < 256) (hu : u < 256) :
    Calls Tryd.prog 35 #[.slice (some ⟨b, off, none⟩) n cap, .int .i64 k] w fun e w' => e = .returned (.int .i64 (sz (n - k) x y z u)) ∧ w' = w := by
  have hl : lead x = 3 := by unfold lead; (repeat' split) <;> omega
  have hlo : low x = 128 := by unfold low; (repeat' split) <;> omega
  have hhi : high x = 191 := by unfold high; (repeat' split) <;> omega
  have hsz : sz (n - k) x y z u = if n - k < 3 ∨ y < 128 ∨ 191 < y then 1 else if 3 ≤ 3 ∧ (z < 128 ∨ 191 < z) then 1 else if 4 ≤ 3 ∧ (u < 128 ∨ 191 < u) then 1 else 3 := by
    unfold sz; rw [hl, hlo, hhi]; simp
  clear hl hlo hhi
  have h0 : ¬ ((k : Int) < 0) := by omega
  have h1 : ¬ ((k : Int) ≥ (n : Int)) := by omega
  have q0 : ((x : Int) == 224) = false := by simp; omega
  have q1 : ((x : Int) == 237) = false := by simp; omega
  have q2 : ((x : Int) == 240) = false := by simp; omega
  have q3 : ((x : Int) == 244) = false := by simp; omega
  by_cases hs : n < k + 3
  · have Hfin : Hid (sz (n - k) x y z u = 1) := by unfold Hid; rw [hsz]; (repeat' split) <;> omega
    have hs' : (n : Int) - (k : Int) < 3 := by omega
    clear c1 c2 c3 hsz
    go_enter Tryd.func35, Tryd.ntmps35
    go_wp2
    go_ret
    exact ⟨by rw [Hfin.out]; rfl, rfl⟩
  have hs' : ¬ ((n : Int) - (k : Int) < 3) := by omega
  have e1 := c1 (by omega)
  by_cases y1 : y < 128
  · have Hfin : Hid (sz (n - k) x y z u = 1) := by unfold Hid; rw [hsz]; (repeat' split) <;> omega
    have y1' : (y : Int) < 128 := by omega
    clear c1 c2 c3 hsz
    go_enter Tryd.func35, Tryd.ntmps35
    go_wp2
    go_ret
    exact ⟨by rw [Hfin.out]; rfl, rfl⟩
  by_cases y2 : 191 < y
  · have Hfin : Hid (sz (n - k) x y z u = 1) := by unfold Hid; rw [hsz]; (repeat' split) <;> omega
    have y1' : ¬ ((y : Int) < 128) := by omega
    have y2' : 191 < (y : Int) := by omega
    clear c1 c2 c3 hsz
    go_enter Tryd.func35, Tryd.ntmps35
    go_wp2
    go_ret
    exact ⟨by rw [Hfin.out]; rfl, rfl⟩
  have y1' : ¬ ((y : Int) < 128) := by omega
  have y2' : ¬ (191 < (y : Int)) := by omega
  have e2 : 2 < 3 → w.cell? ⟨b, off + (k + 2), none⟩ = some (.int .u8 z) := fun h => c2 (by omega)
  have e3 : 3 < 3 → w.cell? ⟨b, off + (k + 3), none⟩ = some (.int .u8 u) := fun h => c3 (by omega)
  have HS := hidden' hsz
  clear c1 c2 c3 hsz
  go_enter Tryd.func35, Tryd.ntmps35
  go_wp2
  go_loop [9] (fun i => ∃ m : Nat, 2 ≤ m ∧ m ≤ 3 ∧ i = .int .i64 m ∧ (2 < m → 128 ≤ z ∧ z ≤ 191) ∧ (3 < m → 128 ≤ u ∧ u ≤ 191)) (fun i => 3 - (intOf i).toNat)
  case atStart => exact ⟨2, by omega, by omega, rfl, by omega, by omega⟩
  case round =>
    obtain ⟨m, hm2, hmk, rfl, iz, iu⟩ := hrel
    by_cases hm : m = 3
    · have Hfin : Hid (sz (n - k) x y z u = 3) := by unfold Hid; rw [HS.out]; (repeat' split) <;> omega
      clear HS e2 e3
      subst hm
      go_wp2
      go_ret
      exact ⟨by rw [Hfin.out]; rfl, rfl⟩
    by_cases hm2 : m = 2
    · subst hm2
      have cc := e2 (by omega)
      by_cases v1 : z < 128
      · have Hfin : Hid (sz (n - k) x y z u = 1) := by unfold Hid; rw [HS.out]; (repeat' split) <;> omega
        have v1' : (z : Int) < 128 := by omega
        clear HS e2 e3 iz iu
        go_wp2
        go_ret
        exact ⟨by rw [Hfin.out]; rfl, rfl⟩
      have v1' : ¬ ((z : Int) < 128) := by omega
      by_cases v2 : 191 < z
      · have Hfin : Hid (sz (n - k) x y z u = 1) := by unfold Hid; rw [HS.out]; (repeat' split) <;> omega
        have v2' : 191 < (z : Int) := by omega
        clear HS e2 e3 iz iu
        go_wp2
        go_ret
        exact ⟨by rw [Hfin.out]; rfl, rfl⟩
      have v2' : ¬ (191 < (z : Int)) := by omega
      have HR : Hid (∃ m : Nat, 2 ≤ m ∧ m ≤ 3 ∧ m = 3 ∧ (2 < m → 128 ≤ z ∧ z ≤ 191) ∧ (3 < m → 128 ≤ u ∧ u ≤ 191)) := ⟨3, by omega, by omega, rfl, by omega, by omega⟩
      clear HS e2 e3 iz iu
      go_wp2
      go_round
      case rel =>
        obtain ⟨m, g1, g2, g3, g4, g5⟩ := HR.out
        exact ⟨m, g1, g2, by rw [g3]; rfl, g4, g5⟩
      case measure => simp [intOf]
    · omega

set_option maxHeartbeats 1000000 in
set_option maxRecDepth 100000 in
theorem size_ED (b off n cap k x y z u : Nat) (w : World) (hn : n ≤ 9223372036854775806) (hk : k < n) (hx : x = 237) (c0 : w.cell? ⟨b, off + k, none⟩ = some (.int .u8 x))
    (c1 : k + 1 < n → w.cell? ⟨b, off + (k + 1), none⟩ = some (.int .u8 y)) (c2 : k + 2 < n → w.cell? ⟨b, off + (k + 2), none⟩ = some (.int .u8 z)) (c3 : k + 3 < n → w.cell? ⟨b, off + (k + 3), none⟩ = some (.int .u8 u)) (hy : y < 256) (hz : z < 256) (hu : u < 256) :
    Calls Tryd.prog 35 #[.slice (some ⟨b, off, none⟩) n cap, .int .i64 k] w fun e w' => e = .returned (.int .i64 (sz (n - k) x y z u)) ∧ w' = w := by
  have hl : lead x = 3 := by unfold lead; (repeat' split) <;> omega
  have hlo : low x = 128 := by unfold low; (repeat' split) <;> omega
  have hhi : high x = 159 := by unfold high; (repeat' split) <;> omega
  have hsz : sz (n - k) x y z u = if n - k < 3 ∨ y < 128 ∨ 159 < y then 1 else if 3 ≤ 3 ∧ (z < 128 ∨ 191 < z) then 1 else if 4 ≤ 3 ∧ (u < 128 ∨ 191 < u) then 1 else 3 := by
    unfold sz; rw [hl, hlo, hhi]; simp
  clear hl hlo hhi
  have h0 : ¬ ((k : Int) < 0) := by omega
  have h1 : ¬ ((k : Int) ≥ (n : Int)) := by omega
  subst hx
  by_cases hs : n < k + 3
  · have Hfin : Hid (sz (n - k) 237 y z u = 1) := by unfold Hid; rw [hsz]; (repeat' split) <;> omega
    have hs' : (n : Int) - (k : Int) < 3 := by omega
    clear c1 c2 c3 hsz
    go_enter Tryd.func35, Tryd.ntmps35
    go_wp2
    go_ret
    exact ⟨by rw [Hfin.out]; rfl, rfl⟩
  have hs' : ¬ ((n : Int) - (k : Int) < 3) := by omega
  have e1 := c1 (by omega)
  by_cases y1 : y < 128
  · have Hfin : Hid (sz (n - k) 237 y z u = 1) := by unfold Hid; rw [hsz]; (repeat' split) <;> omega
    have y1' : (y : Int) < 128 := by omega
    clear c1 c2 c3 hsz
    go_enter Tryd.func35, Tryd.ntmps35
    go_wp2
    go_ret
    exact ⟨by rw [Hfin.out]; rfl, rfl⟩
  by_cases y2 : 159 < y
  · have Hfin : Hid (sz (n - k) 237 y z u = 1) := by unfold Hid; rw [hsz]; (repeat' split) <;> omega
    have y1' : ¬ ((y : Int) < 128) := by omega
    have y2' : 159 < (y : Int) := by omega
    clear c1 c2 c3 hsz
    go_enter Tryd.func35, Tryd.ntmps35
    go_wp2
    go_ret
    exact ⟨by rw [Hfin.out]; rfl, rfl⟩
  have y1' : ¬ ((y : Int) < 128) := by omega
  have y2' : ¬ (159 < (y : Int)) := by omega
  have e2 : 2 < 3 → w.cell? ⟨b, off + (k + 2), none⟩ = some (.int .u8 z) := fun h => c2 (by omega)
  have e3 : 3 < 3 → w.cell? ⟨b, off + (k + 3), none⟩ = some (.int .u8 u) := fun h => c3 (by omega)
  have HS := hidden' hsz
  clear c1 c2 c3 hsz
  go_enter Tryd.func35, Tryd.ntmps35
  go_wp2
  go_loop [9] (fun i => ∃ m : Nat, 2 ≤ m ∧ m ≤ 3 ∧ i = .int .i64 m ∧ (2 < m → 128 ≤ z ∧ z ≤ 191) ∧ (3 < m → 128 ≤ u ∧ u ≤ 191)) (fun i => 3 - (intOf i).toNat)
  case atStart => exact ⟨2, by omega, by omega, rfl, by omega, by omega⟩
  case round =>
    obtain ⟨m, hm2, hmk, rfl, iz, iu⟩ := hrel
    by_cases hm : m = 3
    · have Hfin : Hid (sz (n - k) 237 y z u = 3) := by unfold Hid; rw [HS.out]; (repeat' split) <;> omega
      clear HS e2 e3
      subst hm
      go_wp2
      go_ret
      exact ⟨by rw [Hfin.out]; rfl, rfl⟩
    by_cases hm2 : m = 2
    · subst hm2
      have cc := e2 (by omega)
      by_cases v1 : z < 128
      · have Hfin : Hid (sz (n - k) 237 y z u = 1) := by unfold Hid; rw [HS.out]; (repeat' split) <;> omega
        have v1' : (z : Int) < 128 := by omega
        clear HS e2 e3 iz iu
        go_wp2
        go_ret
        exact ⟨by rw [Hfin.out]; rfl, rfl⟩
      have v1' : ¬ ((z : Int) < 128) := by omega
      by_cases v2 : 191 < z
      · have Hfin : Hid (sz (n - k) 237 y z u = 1) := by unfold Hid; rw [HS.out]; (repeat' split) <;> omega
        have v2' : 191 < (z : Int) := by omega
        clear HS e2 e3 iz iu
        go_wp2
        go_ret
        exact ⟨by rw [Hfin.out]; rfl, rfl⟩
      have v2' : ¬ (191 < (z : Int)) := by omega
      have HR : Hid (∃ m : Nat, 2 ≤ m ∧ m ≤ 3 ∧ m = 3 ∧ (2 < m → 128 ≤ z ∧ z ≤ 191) ∧ (3 < m → 128 ≤ u ∧ u ≤ 191)) := ⟨3, by omega, by omega, rfl, by omega, by omega⟩
      clear HS e2 e3 iz iu
      go_wp2
      go_round
      case rel =>
        obtain ⟨m, g1, g2, g3, g4, g5⟩ := HR.out
        exact ⟨m, g1, g2, by rw [g3]; rfl, g4, g5⟩
      case measure => simp [intOf]
    · omega

set_option maxHeartbeats 1000000 in
set_option maxRecDepth 100000 in
theorem size_EE (b off n cap k x y z u : Nat) (w : World) (hn : n ≤ 9223372036854775806) (hk : k < n) (hx : 238 ≤ x ∧ x ≤ 239) (c0 : w.cell? ⟨b, off + k, none⟩ = some (.int .u8 x))
    (c1 : k + 1 < n → w.cell? ⟨b, off + (k + 1), none⟩ = some (.int .u8 y)) (c2 : k + 2 < n → w.cell? ⟨b, off + (k + 2), none⟩ = some (.int .u8 z)) (c3 : k + 3 < n → w.cell? ⟨b, off + (k + 3), none⟩ = some (.int .u8 u)) (hy : y < 256) (hz : z < 256) (hu : u < 256) :
    Calls Tryd.prog 35 #[.slice (some ⟨b, off, none⟩) n cap, .int .i64 k] w fun e w' => e = .returned (.int .i64 (sz (n - k) x y z u)) ∧ w' = w := by
  have hl : lead x = 3 := by unfold lead; (repeat' split) <;> omega
  have hlo : low x = 128 := by unfold low; (repeat' split) <;> omega
  have hhi : high x = 191 := by unfold high; (repeat' split) <;> omega
  have hsz : sz (n - k) x y z u = if n - k < 3 ∨ y < 128 ∨ 191 < y then 1 else if 3 ≤ 3 ∧ (z < 128 ∨ 191 < z) then 1 else if 4 ≤ 3 ∧ (u < 128 ∨ 191 < u) then 1 else 3 := by
    unfold sz; rw [hl, hlo, hhi]; simp
  clear hl hlo hhi
  have h0 : ¬ ((k : Int) < 0) := by omega
  have h1 : ¬ ((k : Int) ≥ (n : Int)) := by omega
  have q0 : ((x : Int) == 224) = false := by simp; omega
  have q1 : ((x : Int) == 237) = false := by simp; omega
  have q2 : ((x : Int) == 240) = false := by simp; omega
  have q3 : ((x : Int) == 244) = false := by simp; omega
  by_cases hs : n < k + 3
  · have Hfin : Hid (sz (n - k) x y z u = 1) := by unfold Hid; rw [hsz]; (repeat' split) <;> omega
    have hs' : (n : Int) - (k : Int) < 3 := by omega
    clear c1 c2 c3 hsz
    go_enter Tryd.func35, Tryd.ntmps35
    go_wp2
    go_ret
    exact ⟨by rw [Hfin.out]; rfl, rfl⟩
  have hs' : ¬ ((n : Int) - (k : Int) < 3) := by omega
  have e1 := c1 (by omega)
  by_cases y1 : y < 128
  · have Hfin : Hid (sz (n - k) x y z u = 1) := by unfold Hid; rw [hsz]; (repeat' split) <;> omega
    have y1' : (y : Int) < 128 := by omega
    clear c1 c2 c3 hsz
    go_enter Tryd.func35, Tryd.ntmps35
    go_wp2
    go_ret
    exact ⟨by rw [Hfin.out]; rfl, rfl⟩
  by_cases y2 : 191 < y
  · have Hfin : Hid (sz (n - k) x y z u = 1) := by unfold Hid; rw [hsz]; (repeat' split) <;> omega
    have y1' : ¬ ((y : Int) < 128) := by omega
    have y2' : 191 < (y : Int) := by omega
    clear c1 c2 c3 hsz
    go_enter Tryd.func35, Tryd.ntmps35
    go_wp2
    go_ret
    exact ⟨by rw [Hfin.out]; rfl, rfl⟩
  have y1' : ¬ ((y : Int) < 128) := by omega
  have y2' : ¬ (191 < (y : Int)) := by omega
  have e2 : 2 < 3 → w.cell? ⟨b, off + (k + 2), none⟩ = some (.int .u8 z) := fun h => c2 (by omega)
  have e3 : 3 < 3 → w.cell? ⟨b, off + (k + 3), none⟩ = some (.int .u8 u) := fun h => c3 (by omega)
  have HS := hidden' hsz
  clear c1 c2 c3 hsz
  go_enter Tryd.func35, Tryd.ntmps35
  go_wp2
  go_loop [9] (fun i => ∃ m : Nat, 2 ≤ m ∧ m ≤ 3 ∧ i = .int .i64 m ∧ (2 < m → 128 ≤ z ∧ z ≤ 191) ∧ (3 < m → 128 ≤ u ∧ u ≤ 191)) (fun i => 3 - (intOf i).toNat)
  case atStart => exact ⟨2, by omega, by omega, rfl, by omega, by omega⟩
  case round =>
    obtain ⟨m, hm2, hmk, rfl, iz, iu⟩ := hrel
    by_cases hm : m = 3
    · have Hfin : Hid (sz (n - k) x y z u = 3) := by unfold Hid; rw [HS.out]; (repeat' split) <;> omega
      clear HS e2 e3
      subst hm
      go_wp2
      go_ret
      exact ⟨by rw [Hfin.out]; rfl, rfl⟩
    by_cases hm2 : m = 2
    · subst hm2
      have cc := e2 (by omega)
      by_cases v1 : z < 128
      · have Hfin : Hid (sz (n - k) x y z u = 1) := by unfold Hid; rw [HS.out]; (repeat' split) <;> omega
        have v1' : (z : Int) < 128 := by omega
        clear HS e2 e3 iz iu
        go_wp2
        go_ret
        exact ⟨by rw [Hfin.out]; rfl, rfl⟩
      have v1' : ¬ ((z : Int) < 128) := by omega
      by_cases v2 : 191 < z
      · have Hfin : Hid (sz (n - k) x y z u = 1) := by unfold Hid; rw [HS.out]; (repeat' split) <;> omega
        have v2' : 191 < (z : Int) := by omega
        clear HS e2 e3 iz iu
        go_wp2
        go_ret
        exact ⟨by rw [Hfin.out]; rfl, rfl⟩
      have v2' : ¬ (191 < (z : Int)) := by omega
      have HR : Hid (∃ m : Nat, 2 ≤ m ∧ m ≤ 3 ∧ m = 3 ∧ (2 < m → 128 ≤ z ∧ z ≤ 191) ∧ (3 < m → 128 ≤ u ∧ u ≤ 191)) := ⟨3, by omega, by omega, rfl, by omega, by omega⟩
      clear HS e2 e3 iz iu
      go_wp2
      go_round
      case rel =>
        obtain ⟨m, g1, g2, g3, g4, g5⟩ := HR.out
        exact ⟨m, g1, g2, by rw [g3]; rfl, g4, g5⟩
      case measure => simp [intOf]
    · omega

set_option maxHeartbeats 1000000 in
set_option maxRecDepth 100000 in
theorem size_F0 (b off n cap k x y z u : Nat) (w : World) (hn : n ≤ 9223372036854775806) (hk : k < n) (hx : x = 240) (c0 : w.cell? ⟨b, off + k, none⟩ = some (.int .u8 x))
    (c1 : k + 1 < n → w.cell? ⟨b, off + (k + 1), none⟩ = some (.int .u8 y)) (c2 : k + 2 < n → w.cell? ⟨b, off + (k + 2), none⟩ = some (.int .u8 z)) (c3 : k + 3 < n → w.cell? ⟨b, off + (k + 3), none⟩ = some (.int .u8 u)) (hy : y < 256) (hz : z < 256) (hu : u < 256) :
    Calls Tryd.prog 35 #[.slice (some ⟨b, off, none⟩) n cap, .int .i64 k] w fun e w' => e = .returned (.int .i64 (sz (n - k) x y z u)) ∧ w' = w := by
  have hl : lead x = 4 := by unfold lead; (repeat' split) <;> omega
  have hlo : low x = 144 := by unfold low; (repeat' split) <;> omega
  have hhi : high x = 191 := by unfold high; (repeat' split) <;> omega
  have hsz : sz (n - k) x y z u = if n - k < 4 ∨ y < 144 ∨ 191 < y then 1 else if 3 ≤ 4 ∧ (z < 128 ∨ 191 < z) then 1 else if 4 ≤ 4 ∧ (u < 128 ∨ 191 < u) then 1 else 4 := by
    unfold sz; rw [hl, hlo, hhi]; simp
  clear hl hlo hhi
  have h0 : ¬ ((k : Int) < 0) := by omega
  have h1 : ¬ ((k : Int) ≥ (n : Int)) := by omega
  subst hx
  by_cases hs : n < k + 4
  · have Hfin : Hid (sz (n - k) 240 y z u = 1) := by unfold Hid; rw [hsz]; (repeat' split) <;> omega
    have hs' : (n : Int) - (k : Int) < 4 := by omega
    clear c1 c2 c3 hsz
    go_enter Tryd.func35, Tryd.ntmps35
    go_wp2
    go_ret
    exact ⟨by rw [Hfin.out]; rfl, rfl⟩
  have hs' : ¬ ((n : Int) - (k : Int) < 4) := by omega
  have e1 := c1 (by omega)
  by_cases y1 : y < 144
  · have Hfin : Hid (sz (n - k) 240 y z u = 1) := by unfold Hid; rw [hsz]; (repeat' split) <;> omega
    have y1' : (y : Int) < 144 := by omega
    clear c1 c2 c3 hsz
    go_enter Tryd.func35, Tryd.ntmps35
    go_wp2
    go_ret
    exact ⟨by rw [Hfin.out]; rfl, rfl⟩
  by_cases y2 : 191 < y
  · have Hfin : Hid (sz (n - k) 240 y z u = 1) := by unfold Hid; rw [hsz]; (repeat' split) <;> omega
    have y1' : ¬ ((y : Int) < 144) := by omega
    have y2' : 191 < (y : Int) := by omega
    clear c1 c2 c3 hsz
    go_enter Tryd.func35, Tryd.ntmps35
    go_wp2
    go_ret
    exact ⟨by rw [Hfin.out]; rfl, rfl⟩
  have y1' : ¬ ((y : Int) < 144) := by omega
  have y2' : ¬ (191 < (y : Int)) := by omega
  have e2 : 2 < 4 → w.cell? ⟨b, off + (k + 2), none⟩ = some (.int .u8 z) := fun h => c2 (by omega)
  have e3 : 3 < 4 → w.cell? ⟨b, off + (k + 3), none⟩ = some (.int .u8 u) := fun h => c3 (by omega)
  have HS := hidden' hsz
  clear c1 c2 c3 hsz
  go_enter Tryd.func35, Tryd.ntmps35
  go_wp2
  go_loop [9] (fun i => ∃ m : Nat, 2 ≤ m ∧ m ≤ 4 ∧ i = .int .i64 m ∧ (2 < m → 128 ≤ z ∧ z ≤ 191) ∧ (3 < m → 128 ≤ u ∧ u ≤ 191)) (fun i => 4 - (intOf i).toNat)
  case atStart => exact ⟨2, by omega, by omega, rfl, by omega, by omega⟩
  case round =>
    obtain ⟨m, hm2, hmk, rfl, iz, iu⟩ := hrel
    by_cases hm : m = 4
    · have Hfin : Hid (sz (n - k) 240 y z u = 4) := by unfold Hid; rw [HS.out]; (repeat' split) <;> omega
      clear HS e2 e3
      subst hm
      go_wp2
      go_ret
      exact ⟨by rw [Hfin.out]; rfl, rfl⟩
    by_cases hm2 : m = 2
    · subst hm2
      have cc := e2 (by omega)
      by_cases v1 : z < 128
      · have Hfin : Hid (sz (n - k) 240 y z u = 1) := by unfold Hid; rw [HS.out]; (repeat' split) <;> omega
        have v1' : (z : Int) < 128 := by omega
        clear HS e2 e3 iz iu
        go_wp2
        go_ret
        exact ⟨by rw [Hfin.out]; rfl, rfl⟩
      have v1' : ¬ ((z : Int) < 128) := by omega
      by_cases v2 : 191 < z
      · have Hfin : Hid (sz (n - k) 240 y z u = 1) := by unfold Hid; rw [HS.out]; (repeat' split) <;> omega
        have v2' : 191 < (z : Int) := by omega
        clear HS e2 e3 iz iu
        go_wp2
        go_ret
        exact ⟨by rw [Hfin.out]; rfl, rfl⟩
      have v2' : ¬ (191 < (z : Int)) := by omega
      have HR : Hid (∃ m : Nat, 2 ≤ m ∧ m ≤ 4 ∧ m = 3 ∧ (2 < m → 128 ≤ z ∧ z ≤ 191) ∧ (3 < m → 128 ≤ u ∧ u ≤ 191)) := ⟨3, by omega, by omega, rfl, by omega, by omega⟩
      clear HS e2 e3 iz iu
      go_wp2
      go_round
      case rel =>
        obtain ⟨m, g1, g2, g3, g4, g5⟩ := HR.out
        exact ⟨m, g1, g2, by rw [g3]; rfl, g4, g5⟩
      case measure => simp [intOf]
    by_cases hm3 : m = 3
    · subst hm3
      have cc := e3 (by omega)
      by_cases v1 : u < 128
      · have Hfin : Hid (sz (n - k) 240 y z u = 1) := by unfold Hid; rw [HS.out]; (repeat' split) <;> omega
        have v1' : (u : Int) < 128 := by omega
        clear HS e2 e3 iz iu
        go_wp2
        go_ret
        exact ⟨by rw [Hfin.out]; rfl, rfl⟩
      have v1' : ¬ ((u : Int) < 128) := by omega
      by_cases v2 : 191 < u
      · have Hfin : Hid (sz (n - k) 240 y z u = 1) := by unfold Hid; rw [HS.out]; (repeat' split) <;> omega
        have v2' : 191 < (u : Int) := by omega
        clear HS e2 e3 iz iu
        go_wp2
        go_ret
        exact ⟨by rw [Hfin.out]; rfl, rfl⟩
      have v2' : ¬ (191 < (u : Int)) := by omega
      have HR : Hid (∃ m : Nat, 2 ≤ m ∧ m ≤ 4 ∧ m = 4 ∧ (2 < m → 128 ≤ z ∧ z ≤ 191) ∧ (3 < m → 128 ≤ u ∧ u ≤ 191)) := ⟨4, by omega, by omega, rfl, by omega, by omega⟩
      clear HS e2 e3 iz iu
      go_wp2
      go_round
      case rel =>
        obtain ⟨m, g1, g2, g3, g4, g5⟩ := HR.out
        exact ⟨m, g1, g2, by rw [g3]; rfl, g4, g5⟩
      case measure => simp [intOf]
    · omega

set_option maxHeartbeats 1000000 in
set_option maxRecDepth 100000 in
theorem size_F1 (b off n cap k x y z u : Nat) (w : World) (hn : n ≤ 9223372036854775806) (hk : k < n) (hx : 241 ≤ x ∧ x ≤ 243) (c0 : w.cell? ⟨b, off + k, none⟩ = some (.int .u8 x))
    (c1 : k + 1 < n → w.cell? ⟨b, off + (k + 1), none⟩ = some (.int .u8 y)) (c2 : k + 2 < n → w.cell? ⟨b, off + (k + 2), none⟩ = some (.int .u8 z)) (c3 : k + 3 < n → w.cell? ⟨b, off + (k + 3), none⟩ = some (.int .u8 u)) (hy : y < 256) (hz : z < 256) (hu : u < 256) :
    Calls Tryd.prog 35 #[.slice (some ⟨b, off, none⟩) n cap, .int .i64 k] w fun e w' => e = .returned (.int .i64 (sz (n - k) x y z u)) ∧ w' = w := by
  have hl : lead x = 4 := by unfold lead; (repeat' split) <;> omega
  have hlo : low x = 128 := by unfold low; (repeat' split) <;> omega
  have hhi : high x = 191 := by unfold high; (repeat' split) <;> omega
  have hsz : sz (n - k) x y z u = if n - k < 4 ∨ y < 128 ∨ 191 < y then 1 else if 3 ≤ 4 ∧ (z < 128 ∨ 191 < z) then 1 else if 4 ≤ 4 ∧ (u < 128 ∨ 191 < u) then 1 else 4 := by
    unfold sz; rw [hl, hlo, hhi]; simp
  clear hl hlo hhi
  have h0 : ¬ ((k : Int) < 0) := by omega
  have h1 : ¬ ((k : Int) ≥ (n : Int)) := by omega
  have q0 : ((x : Int) == 224) = false := by simp; omega
  have q1 : ((x : Int) == 237) = false := by simp; omega
  have q2 : ((x : Int) == 240) = false := by simp; omega
  have q3 : ((x : Int) == 244) = false := by simp; omega
  by_cases hs : n < k + 4
  · have Hfin : Hid (sz (n - k) x y z u = 1) := by unfold Hid; rw [hsz]; (repeat' split) <;> omega
    have hs' : (n : Int) - (k : Int) < 4 := by omega
    clear c1 c2 c3 hsz
    go_enter Tryd.func35, Tryd.ntmps35
    go_wp2
    go_ret
    exact ⟨by rw [Hfin.out]; rfl, rfl⟩
  have hs' : ¬ ((n : Int) - (k : Int) < 4) := by omega
  have e1 := c1 (by omega)
  by_cases y1 : y < 128
  · have Hfin : Hid (sz (n - k) x y z u = 1) := by unfold Hid; rw [hsz]; (repeat' split) <;> omega
    have y1' : (y : Int) < 128 := by omega
    clear c1 c2 c3 hsz
    go_enter Tryd.func35, Tryd.ntmps35
    go_wp2
    go_ret
    exact ⟨by rw [Hfin.out]; rfl, rfl⟩
  by_cases y2 : 191 < y
  · have Hfin : Hid (sz (n - k) x y z u = 1) := by unfold Hid; rw [hsz]; (repeat' split) <;> omega
    have y1' : ¬ ((y : Int) < 128) := by omega
    have y2' : 191 < (y : Int) := by omega
    clear c1 c2 c3 hsz
    go_enter Tryd.func35, Tryd.ntmps35
    go_wp2
    go_ret
    exact ⟨by rw [Hfin.out]; rfl, rfl⟩
  have y1' : ¬ ((y : Int) < 128) := by omega
  have y2' : ¬ (191 < (y : Int)) := by omega
  have e2 : 2 < 4 → w.cell? ⟨b, off + (k + 2), none⟩ = some (.int .u8 z) := fun h => c2 (by omega)
  have e3 : 3 < 4 → w.cell? ⟨b, off + (k + 3), none⟩ = some (.int .u8 u) := fun h => c3 (by omega)
  have HS := hidden' hsz
  clear c1 c2 c3 hsz
  go_enter Tryd.func35, Tryd.ntmps35
  go_wp2
  go_loop [9] (fun i => ∃ m : Nat, 2 ≤ m ∧ m ≤ 4 ∧ i = .int .i64 m ∧ (2 < m → 128 ≤ z ∧ z ≤ 191) ∧ (3 < m → 128 ≤ u ∧ u ≤ 191)) (fun i => 4 - (intOf i).toNat)
  case atStart => exact ⟨2, by omega, by omega, rfl, by omega, by omega⟩
  case round =>
    obtain ⟨m, hm2, hmk, rfl, iz, iu⟩ := hrel
    by_cases hm : m = 4
    · have Hfin : Hid (sz (n - k) x y z u = 4) := by unfold Hid; rw [HS.out]; (repeat' split) <;> omega
      clear HS e2 e3
      subst hm
      go_wp2
      go_ret
      exact ⟨by rw [Hfin.out]; rfl, rfl⟩
    by_cases hm2 : m = 2
    · subst hm2
      have cc := e2 (by omega)
      by_cases v1 : z < 128
      · have Hfin : Hid (sz (n - k) x y z u = 1) := by unfold Hid; rw [HS.out]; (repeat' split) <;> omega
        have v1' : (z : Int) < 128 := by omega
        clear HS e2 e3 iz iu
        go_wp2
        go_ret
        exact ⟨by rw [Hfin.out]; rfl, rfl⟩
      have v1' : ¬ ((z : Int) < 128) := by omega
      by_cases v2 : 191 < z
      · have Hfin : Hid (sz (n - k) x y z u = 1) := by unfold Hid; rw [HS.out]; (repeat' split) <;> omega
        have v2' : 191 < (z : Int) := by omega
        clear HS e2 e3 iz iu
        go_wp2
        go_ret
        exact ⟨by rw [Hfin.out]; rfl, rfl⟩
      have v2' : ¬ (191 < (z : Int)) := by omega
      have HR : Hid (∃ m : Nat, 2 ≤ m ∧ m ≤ 4 ∧ m = 3 ∧ (2 < m → 128 ≤ z ∧ z ≤ 191) ∧ (3 < m → 128 ≤ u ∧ u ≤ 191)) := ⟨3, by omega, by omega, rfl, by omega, by omega⟩
      clear HS e2 e3 iz iu
      go_wp2
      go_round
      case rel =>
        obtain ⟨m, g1, g2, g3, g4, g5⟩ := HR.out
        exact ⟨m, g1, g2, by rw [g3]; rfl, g4, g5⟩
      case measure => simp [intOf]
    by_cases hm3 : m = 3
    · subst hm3
      have cc := e3 (by omega)
      by_cases v1 : u < 128
      · have Hfin : Hid (sz (n - k) x y z u = 1) := by unfold Hid; rw [HS.out]; (repeat' split) <;> omega
        have v1' : (u : Int) < 128 := by omega
        clear HS e2 e3 iz iu
        go_wp2
        go_ret
        exact ⟨by rw [Hfin.out]; rfl, rfl⟩
      have v1' : ¬ ((u : Int) < 128) := by omega
      by_cases v2 : 191 < u
      · have Hfin : Hid (sz (n - k) x y z u = 1) := by unfold Hid; rw [HS.out]; (repeat' split) <;> omega
        have v2' : 191 < (u : Int) := by omega
        clear HS e2 e3 iz iu
        go_wp2
        go_ret
        exact ⟨by rw [Hfin.out]; rfl, rfl⟩
      have v2' : ¬ (191 < (u : Int)) := by omega
      have HR : Hid (∃ m : Nat, 2 ≤ m ∧ m ≤ 4 ∧ m = 4 ∧ (2 < m → 128 ≤ z ∧ z ≤ 191) ∧ (3 < m → 128 ≤ u ∧ u ≤ 191)) := ⟨4, by omega, by omega, rfl, by omega, by omega⟩
      clear HS e2 e3 iz iu
      go_wp2
      go_round
      case rel =>
        obtain ⟨m, g1, g2, g3, g4, g5⟩ := HR.out
        exact ⟨m, g1, g2, by rw [g3]; rfl, g4, g5⟩
      case measure => simp [intOf]
    · omega

set_option maxHeartbeats 1000000 in
set_option maxRecDepth 100000 in
theorem size_F4 (b off n cap k x y z u : Nat) (w : World) (hn : n ≤ 9223372036854775806) (hk : k < n) (hx : x = 244) (c0 : w.cell? ⟨b, off + k, none⟩ = some (.int .u8 x))
    (c1 : k + 1 < n → w.cell? ⟨b, off + (k + 1), none⟩ = some (.int .u8 y)) (c2 : k + 2 < n → w.cell? ⟨b, off + (k + 2), none⟩ = some (.int .u8 z)) (c3 : k + 3 < n → w.cell? ⟨b, off + (k + 3), none⟩ = some (.int .u8 u)) (hy : y < 256) (hz : z < 256) (hu : u < 256) :
    Calls Tryd.prog 35 #[.slice (some ⟨b, off, none⟩) n cap, .int .i64 k] w fun e w' => e = .returned (.int .i64 (sz (n - k) x y z u)) ∧ w' = w := by
  have hl : lead x = 4 := by unfold lead; (repeat' split) <;> omega
  have hlo : low x = 128 := by unfold low; (repeat' split) <;> omega
  have hhi : high x = 143 := by unfold high; (repeat' split) <;> omega
  have hsz : sz (n - k) x y z u = if n - k < 4 ∨ y < 128 ∨ 143 < y then 1 else if 3 ≤ 4 ∧ (z < 128 ∨ 191 < z) then 1 else if 4 ≤ 4 ∧ (u < 128 ∨ 191 < u) then 1 else 4 := by
    unfold sz; rw [hl, hlo, hhi]; simp
  clear hl hlo hhi
  have h0 : ¬ ((k : Int) < 0) := by omega
  have h1 : ¬ ((k : Int) ≥ (n : Int)) := by omega
  subst hx
  by_cases hs : n < k + 4
  · have Hfin : Hid (sz (n - k) 244 y z u = 1) := by unfold Hid; rw [hsz]; (repeat' split) <;> omega
    have hs' : (n : Int) - (k : Int) < 4 := by omega
    clear c1 c2 c3 hsz
    go_enter Tryd.func35, Tryd.ntmps35
    go_wp2
    go_ret
    exact ⟨by rw [Hfin.out]; rfl, rfl⟩
  have hs' : ¬ ((n : Int) - (k : Int) < 4) := by omega
  have e1 := c1 (by omega)
  by_cases y1 : y < 128
  · have Hfin : Hid (sz (n - k) 244 y z u = 1) := by unfold Hid; rw [hsz]; (repeat' split) <;> omega
    have y1' : (y : Int) < 128 := by omega
    clear c1 c2 c3 hsz
    go_enter Tryd.func35, Tryd.ntmps35
    go_wp2
    go_ret
    exact ⟨by rw [Hfin.out]; rfl, rfl⟩
  by_cases y2 : 143 < y
  · have Hfin : Hid (sz (n - k) 244 y z u = 1) := by unfold Hid; rw [hsz]; (repeat' split) <;> omega
    have y1' : ¬ ((y : Int) < 128) := by omega
    have y2' : 143 < (y : Int) := by omega
    clear c1 c2 c3 hsz
    go_enter Tryd.func35, Tryd.ntmps35
    go_wp2
    go_ret
    exact ⟨by rw [Hfin.out]; rfl, rfl⟩
  have y1' : ¬ ((y : Int) < 128) := by omega
  have y2' : ¬ (143 < (y : Int)) := by omega
  have e2 : 2 < 4 → w.cell? ⟨b, off + (k + 2), none⟩ = some (.int .u8 z) := fun h => c2 (by omega)
  have e3 : 3 < 4 → w.cell? ⟨b, off + (k + 3), none⟩ = some (.int .u8 u) := fun h => c3 (by omega)
  have HS := hidden' hsz
  clear c1 c2 c3 hsz
  go_enter Tryd.func35, Tryd.ntmps35
  go_wp2
  go_loop [9] (fun i => ∃ m : Nat, 2 ≤ m ∧ m ≤ 4 ∧ i = .int .i64 m ∧ (2 < m → 128 ≤ z ∧ z ≤ 191) ∧ (3 < m → 128 ≤ u ∧ u ≤ 191)) (fun i => 4 - (intOf i).toNat)
  case atStart => exact ⟨2, by omega, by omega, rfl, by omega, by omega⟩
  case round =>
    obtain ⟨m, hm2, hmk, rfl, iz, iu⟩ := hrel
    by_cases hm : m = 4
    · have Hfin : Hid (sz (n - k) 244 y z u = 4) := by unfold Hid; rw [HS.out]; (repeat' split) <;> omega
      clear HS e2 e3
      subst hm
      go_wp2
      go_ret
      exact ⟨by rw [Hfin.out]; rfl, rfl⟩
    by_cases hm2 : m = 2
    · subst hm2
      have cc := e2 (by omega)
      by_cases v1 : z < 128
      · have Hfin : Hid (sz (n - k) 244 y z u = 1) := by unfold Hid; rw [HS.out]; (repeat' split) <;> omega
        have v1' : (z : Int) < 128 := by omega
        clear HS e2 e3 iz iu
        go_wp2
        go_ret
        exact ⟨by rw [Hfin.out]; rfl, rfl⟩
      have v1' : ¬ ((z : Int) < 128) := by omega
      by_cases v2 : 191 < z
      · have Hfin : Hid (sz (n - k) 244 y z u = 1) := by unfold Hid; rw [HS.out]; (repeat' split) <;> omega
        have v2' : 191 < (z : Int) := by omega
        clear HS e2 e3 iz iu
        go_wp2
        go_ret
        exact ⟨by rw [Hfin.out]; rfl, rfl⟩
      have v2' : ¬ (191 < (z : Int)) := by omega
      have HR : Hid (∃ m : Nat, 2 ≤ m ∧ m ≤ 4 ∧ m = 3 ∧ (2 < m → 128 ≤ z ∧ z ≤ 191) ∧ (3 < m → 128 ≤ u ∧ u ≤ 191)) := ⟨3, by omega, by omega, rfl, by omega, by omega⟩
      clear HS e2 e3 iz iu
      go_wp2
      go_round
      case rel =>
        obtain ⟨m, g1, g2, g3, g4, g5⟩ := HR.out
        exact ⟨m, g1, g2, by rw [g3]; rfl, g4, g5⟩
      case measure => simp [intOf]
    by_cases hm3 : m = 3
    · subst hm3
      have cc := e3 (by omega)
      by_cases v1 : u < 128
      · have Hfin : Hid (sz (n - k) 244 y z u = 1) := by unfold Hid; rw [HS.out]; (repeat' split) <;> omega
        have v1' : (u : Int) < 128 := by omega
        clear HS e2 e3 iz iu
        go_wp2
        go_ret
        exact ⟨by rw [Hfin.out]; rfl, rfl⟩
      have v1' : ¬ ((u : Int) < 128) := by omega
      by_cases v2 : 191 < u
      · have Hfin : Hid (sz (n - k) 244 y z u = 1) := by unfold Hid; rw [HS.out]; (repeat' split) <;> omega
        have v2' : 191 < (u : Int) := by omega
        clear HS e2 e3 iz iu
        go_wp2
        go_ret
        exact ⟨by rw [Hfin.out]; rfl, rfl⟩
      have v2' : ¬ (191 < (u : Int)) := by omega
      have HR : Hid (∃ m : Nat, 2 ≤ m ∧ m ≤ 4 ∧ m = 4 ∧ (2 < m → 128 ≤ z ∧ z ≤ 191) ∧ (3 < m → 128 ≤ u ∧ u ≤ 191)) := ⟨4, by omega, by omega, rfl, by omega, by omega⟩
      clear HS e2 e3 iz iu
      go_wp2
      go_round
      case rel =>
        obtain ⟨m, g1, g2, g3, g4, g5⟩ := HR.out
        exact ⟨m, g1, g2, by rw [g3]; rfl, g4, g5⟩
      case measure => simp [intOf]
    · omega


theorem size_in (f : Nat → Nat) (b off n cap k : Nat) (w : World) (hf : ∀ j, f j < 256) (hn : n ≤ 9223372036854775806) (hc : Cells w b off n f) (hk : k < n) :
    Calls Tryd.prog 35 #[.slice (some ⟨b, off, none⟩) n cap, .int .i64 k] w fun e w' => e = .returned (.int .i64 (szAt f n k)) ∧ w' = w := by
  rw [szAt_in hk]
  have c0 := hc k hk
  have c1 : k + 1 < n → w.cell? ⟨b, off + (k + 1), none⟩ = some (.int .u8 (f (k + 1))) := fun h => hc _ h
  have c2 : k + 2 < n → w.cell? ⟨b, off + (k + 2), none⟩ = some (.int .u8 (f (k + 2))) := fun h => hc _ h
  have c3 : k + 3 < n → w.cell? ⟨b, off + (k + 3), none⟩ = some (.int .u8 (f (k + 3))) := fun h => hc _ h
  have b1 := hf (k + 1)
  have b2 := hf (k + 2)
  have b3 := hf (k + 3)
  have b0 := hf k
  generalize f k = x at *
  generalize f (k + 1) = y at *
  generalize f (k + 2) = z at *
  generalize f (k + 3) = u at *
  by_cases h : x < 194 ∨ 244 < x
  · have : lead x = 1 := by unfold lead; (repeat' split) <;> omega
    have e : sz (n - k) x y z u = 1 := by unfold sz; rw [if_pos (Or.inl this)]
    rw [e]
    exact size_one b off n cap k x w hn hk c0 h b0
  by_cases g1 : x ≤ 223
  · exact size_C2 b off n cap k x y z u w hn hk (by omega) c0 c1 c2 c3 b1 b2 b3
  by_cases g2 : x = 224
  · exact size_E0 b off n cap k x y z u w hn hk g2 c0 c1 c2 c3 b1 b2 b3
  by_cases g3 : x ≤ 236
  · exact size_E1 b off n cap k x y z u w hn hk (by omega) c0 c1 c2 c3 b1 b2 b3
  by_cases g4 : x = 237
  · exact size_ED b off n cap k x y z u w hn hk g4 c0 c1 c2 c3 b1 b2 b3
  by_cases g5 : x ≤ 239
  · exact size_EE b off n cap k x y z u w hn hk (by omega) c0 c1 c2 c3 b1 b2 b3
  by_cases g6 : x = 240
  · exact size_F0 b off n cap k x y z u w hn hk g6 c0 c1 c2 c3 b1 b2 b3
  by_cases g7 : x ≤ 243
  · exact size_F1 b off n cap k x y z u w hn hk (by omega) c0 c1 c2 c3 b1 b2 b3
  exact size_F4 b off n cap k x y z u w hn hk (by omega) c0 c1 c2 c3 b1 b2 b3

theorem size_any (v : Value) (f : Nat → Nat) (n : Nat) (a : Int) (w : World) (h : IsBytes w v n f) :
    Calls Tryd.prog 35 #[v, .int .i64 a] w fun e w' => e = .returned (.int .i64 (nextZ f n a)) ∧ w' = w := by
  by_cases ha : 0 ≤ a ∧ a < n
  · obtain ⟨hf, hn, h⟩ := h
    rcases h with ⟨_, _, rfl, rfl⟩ | ⟨b, off, cap, rfl, hcap, hc⟩
    · omega
    · have hk : ((a.toNat : Nat) : Int) = a := Int.toNat_of_nonneg ha.1
      have := size_in f b off n cap a.toNat w hf hn hc (by omega)
      rw [hk] at this
      unfold nextZ
      rw [if_pos ha]
      exact this
  · unfold nextZ
    rw [if_neg ha]
    exact size_out v f n a w h ha

end Go.Proofs.PlatenGlyph
