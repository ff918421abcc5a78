/- What figure.Sum and the document's Sum come to. -/
import Derived.Test.YtgijplljpimbmaaGreatDoorFgB
import Derived.Test.YtgijplljpimbmaaGreatDoorFgH
namespace Go.Proofs.PlatenFigure
open Go.RowKit
set_option linter.unusedVariables false

def addO (o : Option Nat) (y : Nat) : Option Nat := o.bind fun x => floatBits .add .f64 x y
def accO (f : Nat → Nat) : Nat → Option Nat
  | 0 => some (f 0)
  | k + 1 => addO (accO f k) (f (k + 1))
def sumO (f : Nat → Nat) : Nat → Option Nat
  | 0 => some 0
  | k + 1 => accO f k
/-- A number that is the sum, or a NaN where the sum is none. -/
structure SmP (o : Option Nat) (v : Nat) : Prop where
  lt : v < 18446744073709551616
  yes : ∀ x, o = some x → v = x
  no : o = none → nanW v = true
theorem add_nan {v : Nat} (y : Nat) (h : nanW v = true) : floatBits .add .f64 v y = none := by
  unfold nanW at h
  show (((Ieee.double.read v).sum (Ieee.double.read y)).map Ieee.double.write) = none
  cases hd : Ieee.double.read v with
  | nan s t => rfl
  | number s m i => rw [hd] at h; cases h
  | infinity s => rw [hd] at h; cases h
theorem nan_word (t : Nat) : nanW (t % 2 * 2 ^ 63 + 0x7ff0000000000000 + 1 + t / 2 % (2 ^ 52 - 1)) = true := by
  have h1 : t / 2 % (2 ^ 52 - 1) < 2 ^ 52 - 1 := Nat.mod_lt _ (by decide)
  have h2 : t % 2 < 2 := Nat.mod_lt _ (by decide)
  unfold nanW Ieee.Format.read
  simp only [sign_weight, binade_is, inf_rung]
  generalize t / 2 % (2 ^ 52 - 1) = z at *
  generalize t % 2 = q at *
  have e : (q * 2 ^ 63 + 0x7ff0000000000000 + 1 + z) % 2 ^ 63 = 0x7ff0000000000000 + 1 + z := by omega
  rw [e, if_neg (by omega), if_neg (by omega), if_neg (by omega)]
  rfl
theorem run_add_nan (x y : Nat) (w : World) (h : floatBits .add .f64 x y = none) :
    ∃ r, nanW r = true ∧ r < 18446744073709551616 ∧ (binOp .add 25 (.float .f64 x) (.float .f64 y)).run Tryz.prog w = .ok (.float .f64 r) w.drew := by
  refine ⟨_, nan_word (w.tape w.drawn (.nanBits .f64 x y)), ?_, ?_⟩
  · have h1 : w.tape w.drawn (.nanBits .f64 x y) / 2 % (2 ^ 52 - 1) < 2 ^ 52 - 1 := Nat.mod_lt _ (by decide)
    have h2 : w.tape w.drawn (.nanBits .f64 x y) % 2 < 2 := Nat.mod_lt _ (by decide)
    omega
  · have h' : FloatKind.f64.format.add x y = none := h
    simp [binOp, Op.floatArith, h', choose, Sem.run]
    rfl
theorem SmP.step {o : Option Nat} {v : Nat} (h : SmP o v) (y : Nat) :
    (∃ r, floatBits .add .f64 v y = some r ∧ SmP (addO o y) r) ∨ (floatBits .add .f64 v y = none ∧ addO o y = none) := by
  cases o with
  | none => exact .inr ⟨add_nan y (h.no rfl), rfl⟩
  | some x =>
    obtain rfl := h.yes x rfl
    cases hb : floatBits .add .f64 v y with
    | none => exact .inr ⟨rfl, hb⟩
    | some r =>
      refine .inl ⟨r, rfl, ?_, ?_, ?_⟩
      · have := floatBits_wf hb
        simpa [Lit.wf] using this
      · intro x hx
        rw [show addO (some v) y = some r from hb] at hx
        exact Option.some.inj hx
      · intro hx
        rw [show addO (some v) y = some r from hb] at hx
        cases hx
/-- A row of numbers in memory. -/
def Nums (w : World) (b off n : Nat) (f : Nat → Nat) : Prop := ∀ j, j < n → w.cell? ⟨b, off + j, none⟩ = some (.float .f64 (f j))

set_option maxHeartbeats 2000000 in
theorem sum_any (b n cap : Nat) (f : Nat → Nat) (w : World) (hn : n ≤ 1000) (hc : n ≤ cap) (hcap : cap ≤ 9223372036854775807) (h1 : 1 ≤ n) (hf : ∀ j, f j < 18446744073709551616) (hN : Nums w b 0 n f) :
    Calls Tryz.prog 27 #[.slice (some ⟨b, 0, none⟩) n cap] w fun e w' => ∃ v, e = .returned (.float .f64 v) ∧ SmP (sumO f n) v ∧ ∃ m, w' = w.drewN m := by
  have hz : ((n : Int) == 0) = false := by simp; omega
  have h0 : w.cell? ⟨b, 0, none⟩ = some (.float .f64 (f 0)) := by simpa using hN 0 (by omega)
  have hS0 : SmP (accO f 0) (f 0) := ⟨hf 0, fun x hx => Option.some.inj hx, fun hx => by cases hx⟩
  have HS : Hid (sumO f n = accO f (n - 1)) := by
    obtain ⟨q, rfl⟩ : ∃ q, n = q + 1 := ⟨n - 1, by omega⟩
    rfl
  have HS0 := hidden hS0
  have HN := hidden hN
  have HF := hidden hf
  clear hS0 hN hf
  by_cases hk : cap = 1
  · have hn1 : n = 1 := by omega
    subst hn1
    subst hk
    go_enter Tryz.func27, Tryz.ntmps27
    go_wp2_with fail
    go_loop [15, 3] (fun i v => i = .int .i64 0 ∧ v = .float .f64 (f 0)) (fun _ _ => 0)
    case atStart => exact ⟨rfl, rfl⟩
    case round =>
    obtain ⟨rfl, rfl⟩ := hrel
    go_wp2_with fail
    go_ret
    exact ⟨_, rfl, HS0.out, 0, rfl⟩
  · go_enter Tryz.func27, Tryz.ntmps27
    go_wp2_with fail
    go_loopw [15, 3] (fun i x wr => ∃ (k v : Nat), k + 1 ≤ n ∧ i = .int .i64 (k : Nat) ∧ x = .float .f64 (v : Nat) ∧ SmP (accO f k) v ∧ ∃ m, wr = w.drewN m) (fun i _ _ => n - (intOf i).toNat)
    case atStart => exact ⟨0, f 0, by omega, rfl, rfl, HS0.out, 0, rfl⟩
    case round =>
    obtain ⟨k, v, hkn, rfl, rfl, hS, m, hwr⟩ := hrel
    by_cases hlt : k + 1 < n
    · have hck : wr.cell? ⟨b, 1 + k, none⟩ = some (.float .f64 (f (k + 1))) := by
        have := HN.out (k + 1) hlt
        rw [hwr]
        rw [show (0 : Nat) + (k + 1) = 1 + k by omega] at this
        exact this
      have hlt1 : (k : Int) < (n : Int) - 1 := by omega
      have HW := hidden hwr
      clear hwr
      have HE : Hid (accO f (k + 1) = addO (accO f k) (f (k + 1))) := rfl
      generalize hy : f (k + 1) = y at *
      have HY := hidden hy
      clear hy
      rcases hS.step y with ⟨r, hr, hSr⟩ | ⟨hr, ho⟩
      · have hrun := fun w => run_float_arith (P := Tryz.prog) w .add 25 .f64 v y r hr
        have HR := hidden hSr
        clear hr hSr
        go_wp2_with fail
        go_roundw
        case rel => exact ⟨k + 1, r, by omega, by go_num, rfl, by rw [HE.out]; exact HR.out, m, HW.out⟩
        case measure => simp [intOf]; omega
      · obtain ⟨r, hr1, hr2, hrun⟩ := run_add_nan v y wr hr
        have HR : Hid (SmP (accO f (k + 1)) r) := ⟨hr2, fun x hx => by (rw [HE.out, ho] at hx; cases hx), fun _ => hr1⟩
        clear hr hr1 ho
        go_wp2_with fail
        go_roundw
        case rel => exact ⟨k + 1, r, by omega, by go_num, rfl, HR.out, m + 1, by rw [HW.out]; rfl⟩
        case measure => simp [intOf]; omega
    · obtain rfl : n = k + 1 := by omega
      have HW := hidden hwr
      have HSS := hidden hS
      clear hwr hS
      have hlt1 : ¬ (k : Int) < ((k + 1 : Nat) : Int) - 1 := by omega
      go_wp2_with fail
      go_ret
      exact ⟨_, rfl, HSS.out, m, HW.out⟩

set_option maxHeartbeats 2000000 in
theorem rsum_any (b n cap : Nat) (f : Nat → Nat) (w : World) (hn : n ≤ 1000) (hc : n ≤ cap) (hcap : cap ≤ 9223372036854775807) (h1 : 1 ≤ n) (hf : ∀ j, f j < 18446744073709551616) (hN : Nums w b 0 n f) :
    Calls Tryz.prog 28 #[.slice (some ⟨b, 0, none⟩) n cap] w fun e w' => ∃ v, e = .returned (.float .f64 v) ∧ SmP (sumO f n) v ∧ ∃ m, w' = w.drewN m := by
  have hS0 : SmP (accO f 0) (f 0) := ⟨hf 0, fun x hx => Option.some.inj hx, fun hx => by cases hx⟩
  have HS0 := hidden hS0
  have HN := hidden hN
  clear hS0 hN hf
  go_enter Tryz.func28, Tryz.ntmps28
  go_wp2_with fail
  go_loopw [4, 3] (fun i x wr => ∃ (k v : Nat), k ≤ n ∧ i = .int .i64 (k : Nat) ∧ x = .float .f64 (v : Nat) ∧ (k = 0 → v = 0) ∧ SmP (sumO f k) v ∧ ∃ m, wr = w.drewN m) (fun i _ _ => n - (intOf i).toNat)
  case atStart => exact ⟨0, 0, by omega, rfl, rfl, fun _ => rfl, ⟨by decide, fun x hx => Option.some.inj hx, fun hx => by cases hx⟩, 0, rfl⟩
  case round =>
  obtain ⟨k, v, hkn, rfl, rfl, hv0, hS, m, hwr⟩ := hrel
  by_cases hlt : k < n
  · have hck : wr.cell? ⟨b, k, none⟩ = some (.float .f64 (f k)) := by
      have := HN.out k hlt
      rw [hwr]
      rw [show (0 : Nat) + k = k by omega] at this
      exact this
    have HW := hidden hwr
    clear hwr hv0
    by_cases hk : k = 0
    · subst hk
      clear hS
      go_wp2_with fail
      go_roundw
      case rel => exact ⟨1, f 0, by omega, rfl, rfl, fun h => by (cases h), HS0.out, m, HW.out⟩
      case measure => simp [intOf]; omega
    · obtain ⟨q, rfl⟩ : ∃ q, k = q + 1 := ⟨k - 1, by omega⟩
      have hS' : SmP (accO f q) v := hS
      have HE : Hid (sumO f (q + 1 + 1) = addO (accO f q) (f (q + 1))) := rfl
      have hz : (((q + 1 : Nat) : Int) == 0) = false := by simp; omega
      clear hS
      generalize f (q + 1) = y at *
      generalize hk' : q + 1 = k at *
      have HK := hidden hk'
      clear hk'
      rcases hS'.step y with ⟨r, hr, hSr⟩ | ⟨hr, ho⟩
      · have hrun := fun w => run_float_arith (P := Tryz.prog) w .add 25 .f64 v y r hr
        have HR := hidden hSr
        clear hr hSr hS'
        go_wp2_with fail
        go_roundw
        case rel => exact ⟨k + 1, r, by omega, by go_num, rfl, fun h => by (cases h), by rw [HE.out]; exact HR.out, m, HW.out⟩
        case measure => simp [intOf]; omega
      · obtain ⟨r, hr1, hr2, hrun⟩ := run_add_nan v y wr hr
        have HR : Hid (SmP (sumO f (k + 1)) r) := ⟨hr2, fun x hx => by (rw [HE.out, ho] at hx; cases hx), fun _ => hr1⟩
        clear hr hr1 ho hS'
        go_wp2_with fail
        go_roundw
        case rel => exact ⟨k + 1, r, by omega, by go_num, rfl, fun h => by (cases h), HR.out, m + 1, by rw [HW.out]; rfl⟩
        case measure => simp [intOf]; omega
  · obtain rfl : k = n := by omega
    have HW := hidden hwr
    have HSS := hidden hS
    clear hwr hS hv0
    go_wp2_with fail
    go_ret
    exact ⟨_, rfl, HSS.out, m, HW.out⟩
theorem sum_nil (w : World) : Calls Tryz.prog 27 #[.slice none 0 0] w fun e w' => e = .returned (.float .f64 0) ∧ w' = w := by
  go_enter Tryz.func27, Tryz.ntmps27
  go_wp2
  go_ret
  exact ⟨rfl, rfl⟩
theorem rsum_nil (w : World) : Calls Tryz.prog 28 #[.slice none 0 0] w fun e w' => e = .returned (.float .f64 0) ∧ w' = w := by
  go_enter Tryz.func28, Tryz.ntmps28
  go_wp2_with fail
  go_loop [4, 3] (fun i x => i = .int .i64 0 ∧ x = .float .f64 0) (fun _ _ => 0)
  case atStart => exact ⟨rfl, rfl⟩
  case round =>
  obtain ⟨rfl, rfl⟩ := hrel
  go_wp2_with fail
  go_ret
  exact ⟨rfl, rfl⟩
theorem sm_same {o : Option Nat} {x y : Nat} (hx : SmP o x) (hy : SmP o y) : rsameB x y = true := by
  obtain ⟨T, hT⟩ := top_there
  rw [(same_key hT hx.lt hy.lt).2]
  simp only [decide_eq_true_eq]
  cases o with
  | some z => rw [hx.yes z rfl, hy.yes z rfl]
  | none => unfold key; rw [if_pos (hx.no rfl), if_pos (hy.no rfl)]
end Go.Proofs.PlatenFigure
