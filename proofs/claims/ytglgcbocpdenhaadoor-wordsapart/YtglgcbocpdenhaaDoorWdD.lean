/- What words.Forward, Back and the document's come to. -/
import Derived.Test.YtglgcbocpdenhaaDoorWdC
namespace Go.Proofs.PlatenWords
open Go.RowKit Go.Shelf Go.Proofs.PlatenGlyph
set_option linter.unusedVariables false

def Fw (f : Nat → Nat) (n : Nat) (a : Int) (r : Nat) (ok : Bool) : Prop := (¬ (0 ≤ a ∧ a < n) ∧ r = 0 ∧ ok = false) ∨ (0 ≤ a ∧ a < n ∧ ok = true ∧ IsNext f n a.toNat r)
theorem Fw.eq {f : Nat → Nat} {n : Nat} {a : Int} {r s : Nat} {x y : Bool} (h : Fw f n a r x) (k : Fw f n a s y) : r = s ∧ x = y := by
  rcases h with ⟨h1, h2, h3⟩ | ⟨h1, h2, h3, h4⟩
  · rcases k with ⟨k1, k2, k3⟩ | ⟨k1, k2, k3, k4⟩
    · exact ⟨by omega, by rw [h3, k3]⟩
    · exact absurd ⟨k1, k2⟩ h1
  · rcases k with ⟨k1, k2, k3⟩ | ⟨k1, k2, k3, k4⟩
    · exact absurd ⟨h1, h2⟩ k1
    · exact ⟨isNext_eq h4 k4, by rw [h3, k3]⟩
def Bw (f : Nat → Nat) (n : Nat) (a : Int) (r : Nat) (ok : Bool) : Prop := (¬ (0 < a ∧ a ≤ n) ∧ r = 0 ∧ ok = false) ∨ (0 < a ∧ a ≤ n ∧ ok = true ∧ IsPrev f n a.toNat r)
theorem Bw.eq {f : Nat → Nat} {n : Nat} {a : Int} {r s : Nat} {x y : Bool} (h : Bw f n a r x) (k : Bw f n a s y) : r = s ∧ x = y := by
  rcases h with ⟨h1, h2, h3⟩ | ⟨h1, h2, h3, h4⟩
  · rcases k with ⟨k1, k2, k3⟩ | ⟨k1, k2, k3, k4⟩
    · exact ⟨by omega, by rw [h3, k3]⟩
    · exact absurd ⟨k1, k2⟩ h1
  · rcases k with ⟨k1, k2, k3⟩ | ⟨k1, k2, k3, k4⟩
    · exact absurd ⟨h1, h2⟩ k1
    · exact ⟨isPrev_eq h4 k4, by rw [h3, k3]⟩

set_option maxHeartbeats 1000000 in
theorem forward_out (p : Option Addr) (n cap : Nat) (a : Int) (w : World) (h : ¬ (0 ≤ a ∧ a < n)) :
    Calls Tryd.prog 19 #[.slice p n cap, .int .i64 a] w fun e w' => e = .returned (.tuple #[.int .i64 0, .bool false]) ∧ w' = w := by
  by_cases h0 : a < 0
  · clear h
    go_enter Tryd.func19, Tryd.ntmps19
    go_wp2
    go_ret2
    exact ⟨rfl, rfl⟩
  · have h1 : a ≥ (n : Int) := by omega
    clear h
    go_enter Tryd.func19, Tryd.ntmps19
    go_wp2
    go_ret2
    exact ⟨rfl, rfl⟩
set_option maxHeartbeats 1000000 in
theorem rforward_out (p : Option Addr) (n cap : Nat) (a : Int) (w : World) (h : ¬ (0 ≤ a ∧ a < n)) :
    Calls Tryd.prog 20 #[.slice p n cap, .int .i64 a] w fun e w' => e = .returned (.tuple #[.int .i64 0, .bool false]) ∧ w' = w := by
  by_cases h0 : a < 0
  · clear h
    go_enter Tryd.func20, Tryd.ntmps20
    go_wp2
    go_ret2
    exact ⟨rfl, rfl⟩
  · have h1 : a ≥ (n : Int) := by omega
    clear h
    go_enter Tryd.func20, Tryd.ntmps20
    go_wp2
    go_ret2
    exact ⟨rfl, rfl⟩
set_option maxHeartbeats 1000000 in
theorem back_out (p : Option Addr) (n cap : Nat) (a : Int) (w : World) (h : ¬ (0 < a ∧ a ≤ n)) :
    Calls Tryd.prog 21 #[.slice p n cap, .int .i64 a] w fun e w' => e = .returned (.tuple #[.int .i64 0, .bool false]) ∧ w' = w := by
  by_cases h0 : a ≤ 0
  · clear h
    go_enter Tryd.func21, Tryd.ntmps21
    go_wp2
    go_ret2
    exact ⟨rfl, rfl⟩
  · have h1 : a > (n : Int) := by omega
    clear h
    go_enter Tryd.func21, Tryd.ntmps21
    go_wp2
    go_ret2
    exact ⟨rfl, rfl⟩
set_option maxHeartbeats 1000000 in
theorem rback_out (p : Option Addr) (n cap : Nat) (a : Int) (w : World) (h : ¬ (0 < a ∧ a ≤ n)) :
    Calls Tryd.prog 22 #[.slice p n cap, .int .i64 a] w fun e w' => e = .returned (.tuple #[.int .i64 0, .bool false]) ∧ w' = w := by
  by_cases h0 : a ≤ 0
  · clear h
    go_enter Tryd.func22, Tryd.ntmps22
    go_wp2
    go_ret2
    exact ⟨rfl, rfl⟩
  · have h1 : a > (n : Int) := by omega
    clear h
    go_enter Tryd.func22, Tryd.ntmps22
    go_wp2
    go_ret2
    exact ⟨rfl, rfl⟩

set_option maxHeartbeats 1000000 in
theorem forward_in (v : Value) (n k : Nat) (f : Nat → Nat) (w : World) (hf : ∀ j, f j < 256) (hn : n ≤ 100000) (h : Row w v n f) (hk : k < n) :
    Calls Tryd.prog 19 #[v, .int .i64 k] w fun e w' => ∃ r : Nat, e = .returned (.tuple #[.int .i64 r, .bool true]) ∧ IsNext f n k r ∧ Below w.heap.size w w' := by
  have HR := hidden h
  obtain ⟨a, cap, rfl, _⟩ := h
  have h0 : ¬ ((k : Int) < 0) := by omega
  have h1 : ¬ ((k : Int) ≥ (n : Int)) := by omega
  go_enter Tryd.func19, Tryd.ntmps19
  go_wp2
  go_loopw [6] (fun i wr => ∃ m : Nat, k < m ∧ m ≤ n ∧ i = .int .i64 (m : Nat) ∧ (∀ j, k < j → j < m → wb f n j = false) ∧ Below w.heap.size w wr) (fun i _ => n - (intOf i).toNat)
  case atStart => exact ⟨k + 1, by omega, by omega, by go_num, fun j h1 h2 => by omega, Below.refl _ _⟩
  case round =>
    obtain ⟨m, hkm, hm, rfl, hall, hnx⟩ := hrel
    by_cases hlt : m < n
    · have cb := begins_any _ f n m wr hf (by omega) (HR.out.below hnx) hlt
      have hlz : (m : Int) < (n : Int) := by omega
      cases hb : wb f n m with
      | true =>
        rw [hb] at cb
        have HF : Hid (IsNext f n k m) := ⟨hkm, hm, fun _ => hb, hall⟩
        have Hnx := hidden hnx
        clear hb hall hnx
        go_wp2_with fail
        refine cb.mono ?_
        rintro e w1 ⟨rfl, hb1⟩
        have Hb1 := hidden (Hnx.out.trans (hb1.mono Hnx.out.size))
        clear hb1 cb
        go_wp2
        go_ret2
        exact ⟨m, rfl, HF.out, Hb1.out⟩
      | false =>
        rw [hb] at cb
        have HA : Hid (∀ j, k < j → j < m + 1 → wb f n j = false) := fun j h1 h2 => by
          by_cases q : j = m
          · rw [q]; exact hb
          · exact hall j h1 (by omega)
        have Hnx := hidden hnx
        clear hb hall hnx
        go_wp2_with fail
        refine cb.mono ?_
        rintro e w1 ⟨rfl, hb1⟩
        have Hb1 := hidden (Hnx.out.trans (hb1.mono Hnx.out.size))
        clear hb1 cb
        go_wp2
        go_roundw
        case rel => exact ⟨m + 1, by omega, by omega, by go_num, HA.out, Hb1.out⟩
        case measure => simp [intOf]; omega
    · have hlz : ¬ ((m : Int) < (n : Int)) := by omega
      have hmn : m = n := by omega
      have HF : Hid (IsNext f n k n) := ⟨hk, Nat.le_refl _, fun h => absurd h (Nat.lt_irrefl _), fun j h1 h2 => hall j h1 (by omega)⟩
      have Hnx := hidden hnx
      clear hall hnx hmn
      go_wp2
      go_ret2
      exact ⟨n, rfl, HF.out, Hnx.out⟩
theorem forward_any (v : Value) (n : Nat) (f : Nat → Nat) (a : Int) (w : World) (hf : ∀ j, f j < 256) (hn : n ≤ 100000) (h : Row w v n f) :
    Calls Tryd.prog 19 #[v, .int .i64 a] w fun e w' => ∃ (r : Nat) (ok : Bool), e = .returned (.tuple #[.int .i64 r, .bool ok]) ∧ Fw f n a r ok ∧ Below w.heap.size w w' := by
  by_cases ha : 0 ≤ a ∧ a < n
  · have hk : ((a.toNat : Nat) : Int) = a := Int.toNat_of_nonneg ha.1
    have := forward_in v n a.toNat f w hf hn h (by omega)
    rw [hk] at this
    exact this.mono fun e w' ⟨r, he, hr, hb⟩ => ⟨r, true, he, Or.inr ⟨ha.1, ha.2, rfl, hr⟩, hb⟩
  · obtain ⟨p, cap, rfl, _⟩ := h
    exact (forward_out p n cap a w ha).mono fun e w' ⟨he, hw⟩ => ⟨0, false, he, Or.inl ⟨ha, rfl, rfl⟩, hw ▸ Below.refl _ _⟩

set_option maxHeartbeats 1000000 in
theorem back_in (v : Value) (n k : Nat) (f : Nat → Nat) (w : World) (hf : ∀ j, f j < 256) (hn : n ≤ 100000) (h : Row w v n f) (h0 : 0 < k) (hk : k ≤ n) :
    Calls Tryd.prog 21 #[v, .int .i64 k] w fun e w' => ∃ r : Nat, e = .returned (.tuple #[.int .i64 r, .bool true]) ∧ IsPrev f n k r ∧ Below w.heap.size w w' := by
  have HR := hidden h
  obtain ⟨a, cap, rfl, _⟩ := h
  have h0' : ¬ ((k : Int) ≤ 0) := by omega
  have h1 : ¬ ((k : Int) > (n : Int)) := by omega
  go_enter Tryd.func21, Tryd.ntmps21
  go_wp2
  go_loopw [6] (fun i wr => ∃ m : Nat, m < k ∧ i = .int .i64 (m : Nat) ∧ (∀ j, m < j → j < k → wb f n j = false) ∧ Below w.heap.size w wr) (fun i _ => (intOf i).toNat)
  case atStart => exact ⟨k - 1, by omega, by rw [show (((k - 1 : Nat)) : Int) = (k : Int) - 1 by omega], fun j h1 h2 => by omega, Below.refl _ _⟩
  case round =>
    obtain ⟨m, hkm, rfl, hall, hnx⟩ := hrel
    by_cases hlt : 0 < m
    · have cb := begins_any _ f n m wr hf (by omega) (HR.out.below hnx) (by omega)
      have hlz : (m : Int) > 0 := by omega
      cases hb : wb f n m with
      | true =>
        rw [hb] at cb
        have HF : Hid (IsPrev f n k m) := ⟨hkm, fun _ => hb, hall⟩
        have Hnx := hidden hnx
        clear hb hall hnx
        go_wp2_with fail
        refine cb.mono ?_
        rintro e w1 ⟨rfl, hb1⟩
        have Hb1 := hidden (Hnx.out.trans (hb1.mono Hnx.out.size))
        clear hb1 cb
        go_wp2
        go_ret2
        exact ⟨m, rfl, HF.out, Hb1.out⟩
      | false =>
        rw [hb] at cb
        obtain ⟨q, hq⟩ : ∃ q, m = q + 1 := ⟨m - 1, by omega⟩
        have HA : Hid (∀ j, q < j → j < k → wb f n j = false) := fun j h1 h2 => by
          by_cases q : j = m
          · rw [q]; exact hb
          · exact hall j (by omega) h2
        have Hq : Hid ((m : Int) - 1 = (q : Int) ∧ q < k) := ⟨by omega, by omega⟩
        have Hnx := hidden hnx
        clear hb hall hnx hq
        go_wp2_with fail
        refine cb.mono ?_
        rintro e w1 ⟨rfl, hb1⟩
        have Hb1 := hidden (Hnx.out.trans (hb1.mono Hnx.out.size))
        clear hb1 cb
        go_wp2
        go_roundw
        case rel => exact ⟨q, Hq.out.2, by rw [Hq.out.1], HA.out, Hb1.out⟩
        case measure => simp [intOf]; omega
    · have hlz : ¬ ((m : Int) > 0) := by omega
      have HF : Hid (IsPrev f n k 0) := ⟨h0, fun h => absurd h (Nat.lt_irrefl _), fun j h1 h2 => hall j (by omega) h2⟩
      have Hnx := hidden hnx
      clear hall hnx
      go_wp2
      go_ret2
      exact ⟨0, rfl, HF.out, Hnx.out⟩
theorem back_any (v : Value) (n : Nat) (f : Nat → Nat) (a : Int) (w : World) (hf : ∀ j, f j < 256) (hn : n ≤ 100000) (h : Row w v n f) :
    Calls Tryd.prog 21 #[v, .int .i64 a] w fun e w' => ∃ (r : Nat) (ok : Bool), e = .returned (.tuple #[.int .i64 r, .bool ok]) ∧ Bw f n a r ok ∧ Below w.heap.size w w' := by
  by_cases ha : 0 < a ∧ a ≤ n
  · have hk : ((a.toNat : Nat) : Int) = a := Int.toNat_of_nonneg (by omega)
    have := back_in v n a.toNat f w hf hn h (by omega) (by omega)
    rw [hk] at this
    exact this.mono fun e w' ⟨r, he, hr, hb⟩ => ⟨r, true, he, Or.inr ⟨ha.1, ha.2, rfl, hr⟩, hb⟩
  · obtain ⟨p, cap, rfl, _⟩ := h
    exact (back_out p n cap a w ha).mono fun e w' ⟨he, hw⟩ => ⟨0, false, he, Or.inl ⟨ha, rfl, rfl⟩, hw ▸ Below.refl _ _⟩

theorem wds_len {f : Nat → Nat} {n : Nat} (hn : n ≤ 100000) : (wds f n).length ≤ 100000 := by
  have := List.length_filter_le (fun p : Nat × Nat => sld (f p.1)) (rns f n n)
  have h2 := rns_len_le f n n
  unfold wds; omega
set_option maxHeartbeats 1000000 in
theorem rforward_in (v : Value) (n k : Nat) (f : Nat → Nat) (w : World) (hf : ∀ j, f j < 256) (hn : n ≤ 100000) (h : Row w v n f) (hk : k < n) :
    Calls Tryd.prog 20 #[v, .int .i64 k] w fun e w' => ∃ r : Nat, e = .returned (.tuple #[.int .i64 r, .bool true]) ∧ IsNext f n k r ∧ Below w.heap.size w w' := by
  have cw := rwords_any v n f w hf hn h
  obtain ⟨a, cap, rfl, _⟩ := h
  have h0 : ¬ ((k : Int) < 0) := by omega
  have h1 : ¬ ((k : Int) ≥ (n : Int)) := by omega
  have hml := wds_len (f := f) hn
  go_enter Tryd.func20, Tryd.ntmps20
  go_wp2_with fail
  refine cw.mono ?_
  rintro e w0 ⟨rv, rfl, ⟨ra, rcap, rfl, hrow⟩, hb0⟩
  have Hrow := hidden hrow
  have Hb0 := hidden hb0
  clear cw hrow hb0
  go_wp2
  go_loop [7] (fun i => ∃ m : Nat, m ≤ (wds f n).length ∧ i = .int .i64 (m : Nat) ∧ ∀ j (hj : j < (wds f n).length), j < m → (wds f n)[j].1 ≤ k) (fun i => (wds f n).length - (intOf i).toNat)
  case atStart => exact ⟨0, Nat.zero_le _, rfl, fun j h1 h2 => by omega⟩
  case round =>
    obtain ⟨m, hm, rfl, hall⟩ := hrel
    by_cases hlt : m < (wds f n).length
    · obtain ⟨g, rfl, hrc, hcells⟩ := Hrow.out (by omega)
      have c1 := (hcells m hlt).1
      have hw := wds_wb (List.getElem_mem hlt)
      by_cases hgt : k < (wds f n)[m].1
      · have HF := hidden (next_found hlt hgt hall)
        have hgz : (((wds f n)[m].1 : Nat) : Int) > (k : Int) := by omega
        rw [getD_eq hlt] at c1
        have hlz : (m : Int) < ((wds f n).length : Int) := by omega
        have hle : (wds f n)[m].1 ≤ 100000 := by omega
        clear hall hcells hw hgt
        generalize (wds f n)[m].1 = x at *
        go_wp2
        go_ret2
        exact ⟨x, rfl, HF.out, Hb0.out⟩
      · have hgz : ¬ ((((wds f n)[m].1 : Nat) : Int) > (k : Int)) := by omega
        have HA : Hid (∀ j (hj : j < (wds f n).length), j < m + 1 → (wds f n)[j].1 ≤ k) := fun j hj h2 => by
          by_cases e : j = m
          · subst e; omega
          · exact hall j hj (by omega)
        rw [getD_eq hlt] at c1
        have hlz : (m : Int) < ((wds f n).length : Int) := by omega
        clear hall hcells hw hgt
        generalize (wds f n)[m].1 = x at *
        go_wp2
        go_round
        case rel => exact ⟨m + 1, by omega, by go_num, HA.out⟩
        case measure => simp [intOf]; omega
    · have hlz : ¬ ((m : Int) < ((wds f n).length : Int)) := by omega
      have HF := hidden (next_none (f := f) hk (fun j hj => hall j hj (by omega)))
      clear hall
      go_wp2
      go_ret2
      exact ⟨n, rfl, HF.out, Hb0.out⟩
theorem rforward_any (v : Value) (n : Nat) (f : Nat → Nat) (a : Int) (w : World) (hf : ∀ j, f j < 256) (hn : n ≤ 100000) (h : Row w v n f) :
    Calls Tryd.prog 20 #[v, .int .i64 a] w fun e w' => ∃ (r : Nat) (ok : Bool), e = .returned (.tuple #[.int .i64 r, .bool ok]) ∧ Fw f n a r ok ∧ Below w.heap.size w w' := by
  by_cases ha : 0 ≤ a ∧ a < n
  · have hk : ((a.toNat : Nat) : Int) = a := Int.toNat_of_nonneg ha.1
    have := rforward_in v n a.toNat f w hf hn h (by omega)
    rw [hk] at this
    exact this.mono fun e w' ⟨r, he, hr, hb⟩ => ⟨r, true, he, Or.inr ⟨ha.1, ha.2, rfl, hr⟩, hb⟩
  · obtain ⟨p, cap, rfl, _⟩ := h
    exact (rforward_out p n cap a w ha).mono fun e w' ⟨he, hw⟩ => ⟨0, false, he, Or.inl ⟨ha, rfl, rfl⟩, hw ▸ Below.refl _ _⟩

set_option maxHeartbeats 1000000 in
theorem rback_in (v : Value) (n k : Nat) (f : Nat → Nat) (w : World) (hf : ∀ j, f j < 256) (hn : n ≤ 100000) (h : Row w v n f) (h0 : 0 < k) (hk : k ≤ n) :
    Calls Tryd.prog 22 #[v, .int .i64 k] w fun e w' => ∃ r : Nat, e = .returned (.tuple #[.int .i64 r, .bool true]) ∧ IsPrev f n k r ∧ Below w.heap.size w w' := by
  have cw := rwords_any v n f w hf hn h
  obtain ⟨a, cap, rfl, _⟩ := h
  have h0' : ¬ ((k : Int) ≤ 0) := by omega
  have h1 : ¬ ((k : Int) > (n : Int)) := by omega
  have hml := wds_len (f := f) hn
  go_enter Tryd.func22, Tryd.ntmps22
  go_wp2_with fail
  refine cw.mono ?_
  rintro e w0 ⟨rv, rfl, ⟨ra, rcap, rfl, hrow⟩, hb0⟩
  have Hrow := hidden hrow
  have Hb0 := hidden hb0
  clear cw hrow hb0
  go_wp2
  go_loop [7] (fun i => ∃ m : Nat, m ≤ (wds f n).length ∧ i = .int .i64 ((m : Int) - 1) ∧ ∀ j (hj : j < (wds f n).length), m ≤ j → k ≤ (wds f n)[j].1) (fun i => (intOf i + 1).toNat)
  case atStart => exact ⟨_, Nat.le_refl _, rfl, fun j h1 h2 => by omega⟩
  case round =>
    obtain ⟨m, hm, hmi, hall⟩ := hrel
    by_cases hlt : 0 < m
    · obtain ⟨q, hq⟩ : ∃ q, m = q + 1 := ⟨m - 1, by omega⟩
      subst hq
      rw [show (((q + 1 : Nat)) : Int) - 1 = (q : Int) by omega] at hmi
      subst hmi
      have hqw : q < (wds f n).length := by omega
      obtain ⟨g, rfl, hrc, hcells⟩ := Hrow.out (by omega)
      have c1 := (hcells q hqw).1
      have hw := wds_wb (List.getElem_mem hqw)
      have hlz : (q : Int) < ((wds f n).length : Int) := by omega
      have hge : (q : Int) ≥ 0 := by omega
      by_cases hgt : (wds f n)[q].1 < k
      · have HF := hidden (prev_found hk hqw hgt (fun j hj h => hall j hj (by omega)))
        have hgz : (((wds f n)[q].1 : Nat) : Int) < (k : Int) := by omega
        rw [getD_eq hqw] at c1
        have hle : (wds f n)[q].1 ≤ 100000 := by omega
        clear hall hcells hw hgt hlt hm
        generalize (wds f n)[q].1 = x at *
        go_wp2
        go_ret2
        exact ⟨x, rfl, HF.out, Hb0.out⟩
      · have hgz : ¬ ((((wds f n)[q].1 : Nat) : Int) < (k : Int)) := by omega
        have HA : Hid (∀ j (hj : j < (wds f n).length), q ≤ j → k ≤ (wds f n)[j].1) := fun j hj h2 => by
          by_cases e : j = q
          · subst e; omega
          · exact hall j hj (by omega)
        rw [getD_eq hqw] at c1
        clear hall hcells hw hgt hlt hm
        generalize (wds f n)[q].1 = x at *
        go_wp2
        go_round
        case rel => exact ⟨q, by omega, rfl, HA.out⟩
        case measure => simp [intOf]
    · have hm0 : m = 0 := by omega
      subst hm0
      rw [show ((0 : Nat) : Int) - 1 = -1 by rfl] at hmi
      subst hmi
      have HF := hidden (prev_none (f := f) h0 hk (fun j hj => hall j hj (Nat.zero_le _)))
      clear hall
      go_wp2
      go_ret2
      exact ⟨0, rfl, HF.out, Hb0.out⟩
theorem rback_any (v : Value) (n : Nat) (f : Nat → Nat) (a : Int) (w : World) (hf : ∀ j, f j < 256) (hn : n ≤ 100000) (h : Row w v n f) :
    Calls Tryd.prog 22 #[v, .int .i64 a] w fun e w' => ∃ (r : Nat) (ok : Bool), e = .returned (.tuple #[.int .i64 r, .bool ok]) ∧ Bw f n a r ok ∧ Below w.heap.size w w' := by
  by_cases ha : 0 < a ∧ a ≤ n
  · have hk : ((a.toNat : Nat) : Int) = a := Int.toNat_of_nonneg (by omega)
    have := rback_in v n a.toNat f w hf hn h (by omega) (by omega)
    rw [hk] at this
    exact this.mono fun e w' ⟨r, he, hr, hb⟩ => ⟨r, true, he, Or.inr ⟨ha.1, ha.2, rfl, hr⟩, hb⟩
  · obtain ⟨p, cap, rfl, _⟩ := h
    exact (rback_out p n cap a w ha).mono fun e w' ⟨he, hw⟩ => ⟨0, false, he, Or.inl ⟨ha, rfl, rfl⟩, hw ▸ Below.refl _ _⟩
end Go.Proofs.PlatenWords
