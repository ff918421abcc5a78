/- What strconv.atof64 comes to where its fast ways don't answer: the long decimal. -/
import Derived.Test.YtgijplljpimbmaaGreatDoorFgDm
import Derived.Test.YtgijplljpimbmaaGreatDoorKF
import Derived.Test.YtgijplljpimbmaaGreatDoorFgXk
import Derived.Test.YtgijplljpimbmaaGreatDoorFgXl
namespace Go.Proofs.PlatenFigure
open Go.RowKit
set_option linter.unusedVariables false
set_option linter.unusedSimpArgs false
set_option maxRecDepth 20000

/-- What floatBits comes to: mantissa, the exponent's field, is it too great? -/
noncomputable def fbS (s : Dst) : Nat × Int × Bool :=
  if s.nd = 0 then (0, 0, false) else if 310 < s.dp then (0, 2047, true) else if s.dp < -330 then (0, 0, false) else flB s
theorem bits_any {B K : Nat} {w0 w : World} {s : Dst} {neg : Bool} (h : DcS B K w0 w s neg) (ok : s.nd = 0 ∨ OkS s) (hf : FltI w0) (ht : Tabs w0) (hB : B = w0.heap.size) :
    Calls Tryz.prog 96 #[.pointer (some ⟨K, 0, none⟩), .pointer (some ⟨6, 0, none⟩)] w fun e w' => e = .returned (.tuple #[.int .u64 (foW (fbS s).1 (fbS s).2.1 neg), .bool (fbS s).2.2]) ∧ Below B w0 w' := by
  have hfw := hf.below hB h.bel
  have key : ∀ w' : World, (∃ m, w' = w.drewN m) → Below B w0 w' := by
    rintro w' ⟨m, rfl⟩
    exact below_drewN h.bel m
  unfold fbS
  by_cases q0 : s.nd = 0
  · rw [if_pos q0]
    refine (bits_zero h hfw q0).mono ?_
    rintro e w' ⟨rfl, hm⟩
    exact ⟨rfl, key _ hm⟩
  · rw [if_neg q0]
    have ok : OkS s := by rcases ok with q | q; exact absurd q q0; exact q
    by_cases q1 : 310 < s.dp
    · rw [if_pos q1]
      refine (bits_great h hfw ok.pos q1).mono ?_
      rintro e w' ⟨rfl, hm⟩
      exact ⟨rfl, key _ hm⟩
    · rw [if_neg q1]
      by_cases q2 : s.dp < -330
      · rw [if_pos q2]
        refine (bits_small h hfw ok.pos q2).mono ?_
        rintro e w' ⟨rfl, hm⟩
        exact ⟨rfl, key _ hm⟩
      · rw [if_neg q2]
        exact bits_mid h ok hf ht hB (by omega) (by omega)
theorem setS_ok (s : ByteArray) (i0 pm pe : Nat) (neg eneg : Bool) (hs : s.size ≤ 100) (hN : Num (L s) i0 pm pe neg eneg) : (setS (L s) i0 pm pe eneg).nd = 0 ∨ OkS (setS (L s) i0 pm pe eneg) := by
  have hok := okD (L s) i0 (pm - i0) (fun j hj => hN.ms (i0 + j) (by omega) (by omega))
  have hle := hN.le
  rw [len_L] at hle
  rcases Nat.eq_zero_or_pos (setS (L s) i0 pm pe eneg).nd with q | q
  · exact Or.inl q
  · have h1 := hok.nd
    exact Or.inr ⟨⟨by show (foldD (L s) i0 (pm - i0)).nd ≤ 800; omega, hok.gl, hok.gh, hok.g0⟩, q⟩
def zc : List Value := List.replicate 800 (.int .u8 0) ++ [.int .i64 0, .int .i64 0, .bool false, .bool false]
theorem zc_eq : Tryz.zeroCells98 = zc.toArray := by kernel_rfl
/-- A decimal just made. -/
theorem dc_new (w : World) : Dc w.heap.size w.heap.size w (w.alloc (.cells Tryz.zeroCells98 98)) (fun _ => 0) 0 0 false false where
  low := Nat.le_refl _
  head := ⟨Tryz.zeroCells98, by show (w.heap.push _)[w.heap.size]? = _; exact Array.getElem?_push_size⟩
  gb := fun _ => by decide
  cell := fun j hj => by
    rw [World.cell?_alloc_new, zc_eq, List.getElem?_toArray, zc, List.getElem?_append_left (by rw [List.length_replicate]; exact hj), List.getElem?_replicate, if_pos hj]
    rfl
  c0 := by rw [World.cell?_alloc_new, zc_eq, List.getElem?_toArray, zc, List.getElem?_append_right (by rw [List.length_replicate]; decide), List.length_replicate]; rfl
  c1 := by rw [World.cell?_alloc_new, zc_eq, List.getElem?_toArray, zc, List.getElem?_append_right (by rw [List.length_replicate]; decide), List.length_replicate]; rfl
  c2 := by rw [World.cell?_alloc_new, zc_eq, List.getElem?_toArray, zc, List.getElem?_append_right (by rw [List.length_replicate]; decide), List.length_replicate]; rfl
  c3 := by rw [World.cell?_alloc_new, zc_eq, List.getElem?_toArray, zc, List.getElem?_append_right (by rw [List.length_replicate]; decide), List.length_replicate]; rfl
  bel := (Below.refl _ _).alloc (Nat.le_refl _) _
/-- The word that the long decimal gives. -/
noncomputable def slW (s : Dst) (neg : Bool) : Nat := (foW (fbS s).1 (fbS s).2.1 neg).toNat
theorem slW_lt (s : Dst) (neg : Bool) : slW s neg < 18446744073709551616 := by
  have := foW_range (fbS s).1 (fbS s).2.1 neg
  unfold slW
  omega
set_option maxHeartbeats 8000000 in
theorem at_long (s : ByteArray) (i0 pm pe : Nat) (neg eneg : Bool) (hs : s.size ≤ 100) (hN : Num (L s) i0 pm pe neg eneg) (m : Nat) (p : Int) (hm : m < 10000000000000000000) (h1 : NoSp s) (h2 : RdF s m p neg true) (h : m ≠ 0) (hp : p ≤ 310) (hp2 : -345 ≤ p) (hx : eqF (pfF m p (sgW neg)).1 (pfF (m + 1) p (sgW neg)).1 = false) :
    AFe s (slW (setS (L s) i0 pm pe eneg) neg) (fbS (setS (L s) i0 pm pe eneg)).2.2 := by
  intro w hL
  have c1 := h1 w
  have c2 := h2 w
  have c3 := bool2u_any neg w
  have ho := hL.opt
  have HL := hidden' hL
  clear hL h1 h2
  have zm : ((m : Int) == 0) = false := by simp; omega
  have hp3 : ¬ (310 : Int) < p := by omega
  have hp4 : ¬ p < -345 := by omega
  have c5 := parse64_any m p (sgW neg) w HL.out (by omega) (by omega) hp2 hp (by cases neg <;> decide)
  have c6 := fun (w2 : World) (h : Lay w2) => parse64_any (m + 1) p (sgW neg) w2 h (by omega) (by omega) hp2 hp (by cases neg <;> decide)
  have hx2 : (FloatKind.f64.format.order (pfF m p (sgW neg)).1 (pfF (m + 1) p (sgW neg)).1 == some .eq) = false := hx
  have hw1 : IntKind.u64.wrap ((m : Int) + 1) = ((m + 1 : Nat) : Int) := by rw [IntKind.wrap_u64]; omega
  have hext : s.extract 0 s.size = s := extract_zero s
  have hsI : (s.size : Int) ≤ 100 := by omega
  have HOK := hidden' (setS_ok s i0 pm pe neg eneg hs hN)
  have HSET := hidden' (fun (B K : Nat) (u0 u : World) (hu : Dc B K u0 u (fun _ => 0) 0 0 false false) => set_any s i0 pm pe neg eneg hs hN hu)
  clear hx hN
  generalize setS (L s) i0 pm pe eneg = SS at *
  have HW := hidden' (slW_lt SS neg)
  have HWv : Hid (foW (fbS SS).1 (fbS SS).2.1 neg = ((slW SS neg : Nat) : Int)) := by
    unfold Hid slW
    have := foW_range (fbS SS).1 (fbS SS).2.1 neg
    omega
  have HB96 := hidden' (fun (B K : Nat) (u0 u : World) (hu : DcS B K u0 u SS neg) (hL : Lay u0) (hB : B = u0.heap.size) => bits_any hu HOK.out ⟨hL.mb, hL.tabs.eb, hL.tabs.bias⟩ hL.tabs hB)
  rw [HWv.out] at HB96
  generalize slW SS neg = X at *
  generalize (fbS SS).2.2 = XB at *
  unfold PfP at c5 c6
  generalize (pfF (m + 1) p (sgW neg)).1 = x2 at *
  generalize (pfF (m + 1) p (sgW neg)).2 = b2 at *
  generalize (pfF m p (sgW neg)).1 = x at *
  generalize (pfF m p (sgW neg)).2 = b at *
  generalize m + 1 = m1 at *
  clear HWv
  cases neg
  all_goals
    simp only [sgW, Bool.false_eq_true, if_false, if_true] at *
    go_enter Tryz.func68, Tryz.ntmps68
    go_wp2_with fail
    refine c1.mono ?_
    rintro e w' ⟨rfl, rfl⟩
    go_wp2_with fail
    refine c2.mono ?_
    rintro e w' ⟨rfl, rfl⟩
    go_wp2_with fail
    refine c3.mono ?_
    rintro e w' ⟨rfl, rfl⟩
    go_wp2_with fail
    refine c5.mono ?_
    rintro e w5 ⟨rfl, hb⟩
    have HB := hidden' hb
    have c6 := c6 w5 (HL.out.below hb)
    clear hb c5
    go_wp2_with fail
    refine c6.mono ?_
    rintro e w6 ⟨rfl, hb⟩
    have HB2 := hidden' (HB.out.trans (hb.mono HB.out.size))
    clear hb c6
    go_wp2_with fail
    refine (HSET.out _ _ _ _ (dc_new w6)).mono ?_
    rintro e w7 ⟨rfl, hd⟩
    have c96 := HB96.out _ _ _ _ hd (HL.out.below HB2.out) rfl
    clear hd
    go_wp2_with fail
    refine c96.mono ?_
    rintro e w8 ⟨rfl, hb8⟩
    have HB8 := hidden' (HB2.out.trans (hb8.mono HB2.out.size))
    clear hb8 c96
    have s0 := sfrom X w8
    cases XB
    · go_wp2_with fail
      go_ret3
      exact ⟨rfl, HB8.out⟩
    · go_wp2_with fail
      go_ret3
      exact ⟨rfl, HB8.out⟩
theorem at_slow (s : ByteArray) (i0 pm pe : Nat) (neg eneg : Bool) (hs : s.size ≤ 100) (hN : Num (L s) i0 pm pe neg eneg) (ha : atF (rdM (L s) i0 pm).m (rdP (L s) i0 pm pe eneg) neg (rdM (L s) i0 pm).tr = none) :
    ∃ x b, x < 18446744073709551616 ∧ AFe s x b := by
  have h1 := nosp_of s i0 pm pe neg eneg (by omega) hN
  have h2 := rdf_of s i0 pm pe neg eneg (by omega) hN
  have hm := rd_small hN
  generalize rdM (L s) i0 pm = r at *
  generalize rdP (L s) i0 pm pe eneg = p at *
  obtain ⟨m, nd, nm, dp, tr, dot, dig⟩ := r
  simp only at *
  unfold atF at ha
  split at ha
  · cases ha
  rename_i q0
  split at ha
  · cases ha
  split at ha
  · cases ha
  rename_i q1 q2
  cases tr
  · rw [if_pos rfl] at ha
    split at ha <;> cases ha
  · rw [if_neg (by decide)] at ha
    split at ha
    · cases ha
    · rename_i q3
      exact ⟨_, _, slW_lt _ neg, at_long s i0 pm pe neg eneg hs hN m p hm h1 h2 q0 (by omega) (by omega) (by simpa using q3)⟩
end Go.Proofs.PlatenFigure

/- strconv.ParseFloat answers at each number's text of 60 bytes. -/
namespace Go.Proofs.PlatenFigure
open Go.RowKit
set_option linter.unusedVariables false

theorem L_inj {s : ByteArray} {l : List UInt8} (h : L s = l) : s = ⟨l.toArray⟩ := by
  apply ByteArray.ext
  show s.data = l.toArray
  rw [← h]
  unfold L
  simp
theorem drop_last (l : List UInt8) (n : Nat) (t : List UInt8) (h : l.drop n = t) (ht : 0 < t.length) : l.getD (l.length - 1) 0 = t.getD (t.length - 1) 0 := by
  have hl : l.length - n = t.length := by rw [← h, List.length_drop]
  rw [← h, ← getD_drop']
  congr 1
  rw [List.length_drop]
  omega
theorem parses60 : Parses 60 := by
  intro s hs hr hn
  unfold ris at hr
  rw [Bool.or_eq_true, Bool.or_eq_true] at hr
  rcases hr with (hr | hr) | hr
  · have hr := eq_of_beq hr
    exact absurd (by rw [drop_last _ _ _ hr (by decide)]; rfl) hn
  · have hr := eq_of_beq hr
    by_cases q : 0 < (L s).length ∧ (((L s).getD 0 0).toNat = 45 ∨ ((L s).getD 0 0).toNat = 43)
    · have h1 : sg1 (L s) = 1 := by unfold sg1; rw [if_pos q]
      rw [h1] at hr
      generalize hl : L s = l at *
      cases l with
      | nil => exact absurd q.1 (by decide)
      | cons c t =>
        have hr : t = [105, 110, 102] := hr
        subst hr
        have hc : c.toNat = 45 ∨ c.toNat = 43 := q.2
        rcases hc with hc | hc
        · obtain rfl : c = 45 := UInt8.toNat_inj.1 hc
          obtain rfl : s = infM := L_inj hl
          exact ⟨_, by decide, pf_of infM _ false (by decide) (at_sp _ _ sp_infM)⟩
        · obtain rfl : c = 43 := UInt8.toNat_inj.1 hc
          obtain rfl : s = infP := L_inj hl
          exact ⟨_, by decide, pf_of infP _ false (by decide) (at_sp _ _ sp_infP)⟩
    · have h1 : sg1 (L s) = 0 := by unfold sg1; rw [if_neg q]
      rw [h1] at hr
      have hr : L s = [105, 110, 102] := hr
      obtain rfl : s = infS := L_inj hr
      exact ⟨_, by decide, pf_of infS _ false (by decide) (at_sp _ _ sp_inf)⟩
  · obtain ⟨pm, pe, neg, eneg, hN⟩ := num_of _ ((rnum_iff _).1 hr)
    cases ha : atF (rdM (L s) (sg1 (L s)) pm).m (rdP (L s) (sg1 (L s)) pm pe eneg) neg (rdM (L s) (sg1 (L s)) pm).tr with
    | some r => exact ⟨r.1, at_lt _ _ _ _ r.1 r.2 (rd_small hN) ha, pf_num s _ pm pe neg eneg (by omega) hN r.1 r.2 ha⟩
    | none =>
      obtain ⟨x, b, hx, hA⟩ := at_slow s _ pm pe neg eneg (by omega) hN ha
      exact ⟨x, hx, pf_of s x b (by omega) hA⟩
end Go.Proofs.PlatenFigure
