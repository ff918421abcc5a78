/- What strconv's text of 0.5 comes to. -/
import Derived.Test.YtgijplljpimbmaaGreatDoorFgI
import Derived.Test.YtgijplljpimbmaaGreatDoorFgJ
import Derived.Test.YtgijplljpimbmaaGreatDoorFgTb
import Derived.Deep.RegionWith
import Derived.Deep.CutRange
namespace Go.Proofs.PlatenFigure
open Go.RowKit Go.Shelf
set_option linter.unusedVariables false

/-- The library's tables lie where the text lays them. -/
structure Lay (w : World) : Prop where
  hw : 11 ≤ w.heap.size
  p10 : P10 w
  u10 : Lib.TabIs Tryz.prog w "internal/strconv.uint64pow10" .u64 Lib.pow10Tab
  opt : w.cell? ⟨3, 0, none⟩ = some (.bool true)
  mb : w.cell? ⟨6, 0, none⟩ = some (.int .u64 52)
  tabs : Tabs w
theorem tab_below {P : Program} {w : World} {name : String} {k : IntKind} {zs : List Int} (h : Lib.TabIs P w name k zs) {w' : World} (hb : Below w.heap.size w w') : Lib.TabIs P w' name k zs := by
  unfold Lib.TabIs World.var? at *
  cases hg : P.globalNamed name with
  | none => rw [hg] at h; simp at h
  | some g =>
    rw [hg] at h
    simp only [Option.bind_some] at h ⊢
    have hlt : g < w.heap.size := by
      rcases Nat.lt_or_ge g w.heap.size with h' | h'
      · exact h'
      · rw [Array.getElem?_eq_none h'] at h; simp at h
    rw [hb.block g hlt]
    exact h
theorem Lay.below {w w' : World} (h : Lay w) (hb : Below w.heap.size w w') : Lay w' := by
  have hz := h.hw
  refine ⟨by have := hb.size; omega, fun i hi => ?_, tab_below h.u10 hb, (hb.cell (p := ⟨3, 0, none⟩) (show 3 < w.heap.size by omega)).trans h.opt, (hb.cell (p := ⟨6, 0, none⟩) (show 6 < w.heap.size by omega)).trans h.mb, h.tabs.below hb⟩
  have c := h.p10 i hi
  exact ⟨(hb.cell (p := ⟨10, i * 2, none⟩) (show 10 < w.heap.size by omega)).trans c.1, (hb.cell (p := ⟨10, i * 2 + 1, none⟩) (show 10 < w.heap.size by omega)).trans c.2⟩
theorem own_below {w w1 : World} {base : Nat} {v : Value} {n : Nat} {xs : List Value} (h : w.ownsRow base 5 1 v n xs) (hb : Below w.heap.size w w1) : w1.ownsRow base 5 1 v n xs := by
  refine ⟨h.1, ?_⟩
  rcases h.2 with hn | ⟨g, cap, cur, hv, hbg, hg, hr⟩
  · exact .inl hn
  · refine .inr ⟨g, cap, cur, hv, hbg, ?_, hr⟩
    rw [hb.block g (by
      rcases Nat.lt_or_ge g w.heap.size with h' | h'
      · exact h'
      · rw [Array.getElem?_eq_none h'] at hg; cases hg)]
    exact hg

set_option maxRecDepth 20000 in
set_option maxHeartbeats 8000000 in
theorem ftoa_ex (base : Nat) (v : Value) (w : World) (hL : Lay w) (ho : w.ownsRow base 5 1 v 0 (bv [])) (hb : base ≤ w.heap.size) :
    Calls Tryz.prog 62 #[v, .float .f64 4602678819172646912, .int .u8 103, .int .i64 (-1)] w fun e w' => ∃ v', e = .returned v' ∧ w'.ownsRow base 5 1 v' 3 (bv [48, 46, 53]) ∧ Below base w w' := by
  have f0 := sbits 4602678819172646912 w
  have b1 : bits .and .i64 1022 2047 = 1022 := by decide
  have b2 : bits .and .u64 4602678819172646912 4503599627370495 = 0 := by decide
  have b3 : bits .or .u64 0 4503599627370496 = 4503599627370496 := by decide
  have HL := hidden hL
  have HO := hidden ho
  have HBB := hidden hb
  clear hL ho hb
  go_enter Tryz.func62, Tryz.ntmps62
  go_wp2_with fail
  go_quiet (fail)
  have HB1 := hidden (below_drewN (Below.refl w.heap.size w) nq)
  generalize w.drewN nq = w1 at *
  have c1 := fun w2 => Tryz.bits_Len64 4503599627370496 w2 (by decide) (by decide)
  rw [show (Lib.bitLen (4503599627370496 : Int).toNat) = 53 by decide +kernel] at c1
  go_wp2_with fail
  refine (c1 _).mono ?_
  rintro e w2 ⟨rfl, hw2⟩
  have hz : ∀ j, j < 32 → w2.cell? ⟨w1.heap.size, j, none⟩ = some (.int .u8 0) ∧ w2.frozen? ⟨w1.heap.size, j, none⟩ = false := by
    intro j hj
    rw [hw2]
    refine ⟨?_, by simp⟩
    rw [World.cell?_alloc_new]
    show (Array.replicate 32 (Value.int .u8 0))[j]? = _
    simp [hj]
  have hs2 : w1.heap.size < w2.heap.size := by rw [hw2]; simp
  have HB2 : Hid (Below w.heap.size w w2) := by rw [hw2]; exact HB1.out.alloc HB1.out.size _
  have hB1 : w.heap.size ≤ w1.heap.size := HB1.out.size
  have HZ := hidden hz
  clear hw2 c1 hz
  generalize w1.heap.size = B at *
  have c2 := short_ex w2 (HL.out.below HB2.out).hw (HL.out.below HB2.out).p10
  go_wp2_with fail
  refine c2.mono ?_
  rintro e w3 ⟨rfl, hb3⟩
  have HB3 := hidden hb3
  have HZ3 : Hid (∀ j, j < 32 → w3.cell? ⟨B, j, none⟩ = some (.int .u8 0) ∧ w3.frozen? ⟨B, j, none⟩ = false) := fun j hj =>
    ⟨(hb3.cell (p := ⟨B, j, none⟩) hs2).trans (HZ.out j hj).1, (hb3.frozen (p := ⟨B, j, none⟩) hs2).trans (HZ.out j hj).2⟩
  have hs3 : B < w3.heap.size := by have := hb3.size; omega
  have HB3 := hidden (HB2.out.trans (hb3.mono HB2.out.size))
  clear hb3 c2
  have c3 : ∀ w2, w2.heap = w3.heap → Calls Tryz.prog 64 #[.int .u64 5000000000000000] w2 fun e w' => e = .returned (.int .i64 16) ∧ w' = w2 := by
    intro w2 hh
    have ht : Lib.TabIs Tryz.prog w2 "internal/strconv.uint64pow10" .u64 Lib.pow10Tab := by
      have := (HL.out.below HB3.out).u10
      unfold Lib.TabIs World.var? at this ⊢
      rw [hh]; exact this
    have := Tryz.internal_strconv_numDigits 5000000000000000 (by decide) (by decide) w2 ht
    rw [show Lib.nDigits 5000000000000000 = 16 by decide +kernel] at this
    exact this
  have c4 : ∀ w2, w2.heap = w3.heap → Below w.heap.size w w2 → Calls Tryz.prog 78 #[.slice (some ⟨B, 0, none⟩) 32 32, .int .u64 5000000000000000, .int .i64 (-16), .int .i64 16] w2 fun e w' =>
      e = .returned (.tuple #[.int .i64 0, .int .i64 1]) ∧ w'.cell? ⟨B, 0, none⟩ = some (.int .u8 53) ∧ B < w'.heap.size ∧ Below w.heap.size w w' := by
    intro w2 hh hb2
    have := setd_any B 5000000000000000 16 (-16) w2 (by decide) (by decide) (by decide) (by decide) (by omega) (by omega) (by
      intro j hj
      have := HZ3.out j hj
      unfold World.cell? World.frozen? at this ⊢
      rw [hh]; exact this)
    refine this.mono ?_
    rintro e w' ⟨rfl, hc, hbut⟩
    refine ⟨?_, ?_, ?_, ?_⟩
    · rw [show nzf 5000000000000000 16 16 = 1 by decide +kernel]; rfl
    · have := hc 0 (by decide)
      rw [show dgt 5000000000000000 16 0 = 53 by decide +kernel] at this
      exact this
    · rw [hbut.size, hh]; exact hs3
    · exact ⟨hbut.os.trans hb2.os, hbut.tape.trans hb2.tape, hbut.output.trans hb2.output, by rw [hbut.size]; exact hb2.size, fun k hk => (hbut.block k (by omega)).trans (hb2.block k hk)⟩
  have HBn : ∀ n, Below w.heap.size w (w3.drewN n) := fun n => below_drewN HB3.out n
  go_wp2_with fail
  go_cut [22, 23] from 139 to 147 (fun a b wx => a = .int .i64 0 ∧ b = .int .i64 1 ∧ wx.cell? ⟨B, 0, none⟩ = some (.int .u8 53) ∧ B < wx.heap.size ∧ Below w.heap.size w wx)
  case first =>
    go_region_with (first
      | (go_at_call 64; refine Calls.mono (c3 _ rfl) ?_; rintro e w' ⟨rfl, rfl⟩)
      | (go_at_call 78; refine Calls.mono (c4 _ rfl ⟨HB3.out.os, HB3.out.tape, HB3.out.output, HB3.out.size, HB3.out.block⟩) ?_; rintro e w' ⟨rfl, q1, q2, q3⟩))
    all_goals (go_wp2_with fail; go_meet; exact ⟨rfl, rfl, q1, q2, ⟨q3.os, q3.tape, q3.output, q3.size, q3.block⟩⟩)
  case rest =>
  obtain ⟨rfl, rfl, q1, q2, q3⟩ := hcut
  have HQ := hidden q3
  clear q3 c3 c4 HBn
  have HOut : Hid (Out base B wc wc v []) := by
    have hne : v.ownBlock ≠ some B := by
      intro e
      have := (HO.out.lt B e).2
      omega
    exact ⟨own_below HO.out HQ.out, hne, q2, Nat.le_trans HBB.out HQ.out.size, Below.refl _ _, rfl⟩
  have c5 := efg_ex base B v wc HOut.out q1
  go_wp2_with fail
  refine c5.mono ?_
  rintro e w5 ⟨v', rfl, hO5⟩
  have HO5 := hidden hO5
  clear hO5
  go_wp2
  go_ret
  exact ⟨_, rfl, HO5.out.own, (HQ.out.mono HBB.out).trans HO5.out.be⟩
end Go.Proofs.PlatenFigure
