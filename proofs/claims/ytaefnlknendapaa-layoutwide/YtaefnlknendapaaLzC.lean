/- The document's Sizes. -/
import Derived.Test.YtaefnlknendapaaLzB
namespace Go.Proofs.PlatenLayout
open Go Go.RowKit Go.Shelf
set_option linter.unusedVariables false
set_option maxRecDepth 100000

theorem szs_take (l : List It) {k : Nat} (h : k < l.length) : (szs l).take (k + 1) = (szs l).take k ++ [((size (l.drop k) : Nat) : Int)] := by
  rw [List.take_add_one, szs_get l h]
  rfl
theorem pre_mono (l : List It) {a b : Nat} (h : a ≤ b) : pre l a ≤ pre l b := by
  have := pre_add l a (b - a)
  rw [show a + (b - a) = b by omega] at this
  omega

set_option maxHeartbeats 8000000 in
theorem rsizes_any {v : Value} {l : List It} {w : World} (h : IsItems w v l) (ok : OkL l) :
    Calls Try.prog 14 #[v] w fun e w' => ∃ u, e = .returned u ∧ IsZ w' u (szs l) ∧ Below w.heap.size w w' := by
  obtain ⟨i3, hi3, hz3, hy3, hb3⟩ := info_parts info3
  have ce := ends_any h ok
  obtain ⟨a, cap, rfl⟩ := h.val
  have hl1 := ok.1
  have HL := hidden h
  have Hok := hidden ok
  obtain ⟨n, hn⟩ : ∃ n, l.length = n := ⟨_, rfl⟩
  rw [hn] at hl1 ce ⊢
  have Hn := hidden hn
  clear h ok hn
  go_enter Try.func14, Try.ntmps14
  go_wp2_with fail
  refine ce.mono ?_
  clear ce
  rintro e w2 ⟨ev, rfl, hz2, hb2⟩
  have HZ2 := hidden hz2
  have HBw := hidden hb2
  clear hz2 hb2
  go_wp2_with fail
  go_loopw [3, 5] (fun ov iv wr => ∃ k : Nat, k ≤ n ∧ iv = .int .i64 (k : Nat) ∧ wr.ownsRow w2.heap.size 3 1 ov ((szs l).take k).length (zs ((szs l).take k)) ∧ Below w2.heap.size w2 wr) (fun _ iv _ => n - (intOf iv).toNat)
  case atStart => exact ⟨0, Nat.zero_le _, rfl, World.ownsRow_nil _ _ _ _, Below.refl _ _⟩
  case round =>
    obtain ⟨k, hk, rfl, hr, hb⟩ := hrel
    by_cases hlt : k < n
    · have hll : k < l.length := by rw [Hn.out]; exact hlt
      obtain ⟨b, off, cp, hv, hcap, x0, x1, x2, x3, x4, x5⟩ := (HL.out.below (HBw.out.trans (hb.mono HBw.out.size))).at' hll
      obtain ⟨x, hx⟩ : ∃ x, l[k] = x := ⟨_, rfl⟩
      have hkd : kd l k = x.kind := by rw [kd_get hll, hx]
      rw [hx] at x0
      rw [Hn.out] at hv hcap
      injection hv with hv1 hv2 hv3
      subst hv1 hv3
      have hlz : (k : Int) < (n : Int) := by omega
      have HKD := hidden hkd
      have HR := hidden hr
      have HB := hidden hb
      have hZr := HZ2.out.below hb
      have hLr := HL.out.below (HBw.out.trans (hb.mono HBw.out.size))
      clear hr hb hv2 x1 x2 x3 x4 x5 hkd
      generalize x.kind = y at *
      by_cases k1 : y = 1
      · have z1 : ((y : Int) == 1) = true := by simp; omega
        have HSt := hidden (size_text hll (HKD.out.trans k1))
        have hks : k ≤ k + 1 := by omega
        have hsn : k + 1 ≤ n := by omega
        clear hZr hLr hx
        go_wp2_with fail
        go_loopw [7, 8] (fun sv jv wr => ∃ (j m : Nat), k ≤ j ∧ j ≤ (k + 1) ∧ jv = .int .i64 (j : Nat) ∧ sv = .int .i64 (m : Nat) ∧ m + pre l k = pre l j ∧ wr.ownsRow w2.heap.size 3 1 u3 ((szs l).take k).length (zs ((szs l).take k)) ∧ Below w2.heap.size w2 wr) (fun _ jv _ => (k + 1) - (intOf jv).toNat)
        case atStart => exact ⟨k, 0, Nat.le_refl _, hks, rfl, rfl, Nat.zero_add _, HR.out, HB.out⟩
        case round =>
          obtain ⟨j, m, hkj, hjs, rfl, rfl, hm, hr, hb⟩ := hrel
          by_cases hj : j < (k + 1)
          · have hjn : j < n := by omega
            have hjl : j < l.length := by rw [Hn.out]; exact hjn
            obtain ⟨b2, off2, cp2, hv2, hcap2, y0, y1, y2, y3, y4, y5⟩ := (HL.out.below (HBw.out.trans (hb.mono HBw.out.size))).at' hjl
            obtain ⟨x2, hx2⟩ : ∃ x2, l[j] = x2 := ⟨_, rfl⟩
            have hox : OkIt x2 := Hok.out.2 x2 (by rw [← hx2]; exact List.getElem_mem hjl)
            rw [hx2] at y0 y1 y2 y3 y4 y5
            rw [Hn.out] at hv2 hcap2
            injection hv2 with hv1 hv3 hv4
            injection hv1 with hv1
            injection hv1 with hb' hoff'
            subst hb' hoff'
            have hp := pre_succ hjl
            rw [hx2] at hp
            have hpb := Hok.out.pre j
            have hpb2 := Hok.out.pre (j + 1)
            have co := own_any x2 hox wr
            have hjz : (j : Int) < ((k : Int) + 1) := by omega
            have HR2 := hidden hr
            have HB2 := hidden hb
            have HP : Hid (m + x2.own + pre l k = pre l (j + 1)) := by unfold Hid; omega
            have hmb : m ≤ 1048576000 := by omega
            have hob : x2.own ≤ 1048576000 := by omega
            clear hr hb hox hx2 hv3 hv4 hp hm hcap2 hpb hpb2
            generalize x2.own = o at *
            go_wp2_with fail
            refine co.mono ?_
            clear co
            rintro e w4 ⟨rfl, hb4⟩
            have HR4 := hidden (row_grown HR2.out (grown_below hb4) (by simp))
            have HB4 := hidden (HB2.out.trans (hb4.mono HB2.out.size))
            clear hb4 y0 y1 y2 y3 y4 y5
            go_wp2_with fail
            go_roundw
            case rel => exact ⟨j + 1, m + o, by omega, by omega, by go_num, by go_num, HP.out, HR4.out, HB4.out⟩
            case measure => simp [intOf]; omega
          · have hjs2 : j = (k + 1) := by omega
            have hjz : ¬ ((j : Int) < ((k : Int) + 1)) := by omega
            rw [hjs2] at hm
            have hm2 : m = size (l.drop k) := by have := HSt.out; omega
            have hmb : m ≤ 1048576000 := by rw [hm2]; exact Hok.out.size k
            have hown := hr.alloc (.cells #[.int .i64 (m : Nat)] 3)
            have hlen : ((szs l).take k).length = k := by rw [List.length_take, szs_len, Hn.out]; omega
            rw [hlen] at hown
            have cn := cells_new wr 3 [.int .i64 (m : Nat)]
            have hB : w2.heap.size ≤ (wr.alloc (.cells #[.int .i64 (m : Nat)] 3)).heap.size := by have := hb.size; simp; omega
            have HB5 := hidden (hb.alloc hb.size (.cells #[.int .i64 (m : Nat)] 3))
            have HT : Hid ((szs l).take (k + 1) = (szs l).take k ++ [((m : Nat) : Int)]) := by unfold Hid; rw [hm2]; exact szs_take l (by rw [Hn.out]; omega)
            have HLN := hidden hlen
            have q3 : k + 1 ≤ maxLen := by unfold maxLen; omega
            have q4 : (k + 1) * 8 ≤ 140737488355328 := by omega
            clear hm2 hr hb hlen hm hj hjs hkj hjs2
            go_wp2_with (at_builtin; refine wpList_append_own _ rfl _ _ 26 rfl w2.heap.size 3 i3 (.int .i64 0) 1 8 Try.underlying26 hi3 hz3 hy3 hb3 rfl (by decide) _ _ _ rfl hown ⟨wr.heap.size, 0, none⟩ 1 1 [.int .i64 (m : Nat)] rfl rfl cn (one1 _ _) q3 q4 hB ?_)
            intro v' w7 hr7 hg7 _
            have HR7 : Hid (w7.ownsRow w2.heap.size 3 1 v' ((szs l).take (k + 1)).length (zs ((szs l).take (k + 1)))) := by
              unfold Hid
              rw [HT.out, List.length_append, List.length_singleton, HLN.out, zs_app]
              exact hr7
            have HB7 := hidden (HB5.out.grown hg7 hB (fun q hq => (hown.lt q hq).1))
            clear hr7 hg7 hown cn hB
            go_wp2_with fail
            go_roundw
            case rel => exact ⟨k + 1, by omega, by go_num, HR7.out, HB7.out⟩
            case measure => simp [intOf]; omega
      have z1 : ((y : Int) == 1) = false := by simp; omega
      by_cases k2 : y = 2
      · have z2 : ((y : Int) == 2) = true := by simp; omega
        have cx := next_any hLr hZr Hok.out k hll
        rw [Hn.out] at cx
        have HK2 := hidden (HKD.out.trans k2)
        clear hZr hLr hx
        go_wp2_with fail
        refine cx.mono ?_
        clear cx
        rintro e w3 ⟨s, rfl, hfs, hsn, hps, rfl⟩
        have HSt := hidden (size_break hll HK2.out hps)
        have hks : k ≤ s := by omega
        clear hps
        go_wp2_with fail
        go_loopw [7, 8] (fun sv jv wr => ∃ (j m : Nat), k ≤ j ∧ j ≤ s ∧ jv = .int .i64 (j : Nat) ∧ sv = .int .i64 (m : Nat) ∧ m + pre l k = pre l j ∧ wr.ownsRow w2.heap.size 3 1 u3 ((szs l).take k).length (zs ((szs l).take k)) ∧ Below w2.heap.size w2 wr) (fun _ jv _ => s - (intOf jv).toNat)
        case atStart => exact ⟨k, 0, Nat.le_refl _, hks, rfl, rfl, Nat.zero_add _, HR.out, HB.out⟩
        case round =>
          obtain ⟨j, m, hkj, hjs, rfl, rfl, hm, hr, hb⟩ := hrel
          by_cases hj : j < s
          · have hjn : j < n := by omega
            have hjl : j < l.length := by rw [Hn.out]; exact hjn
            obtain ⟨b2, off2, cp2, hv2, hcap2, y0, y1, y2, y3, y4, y5⟩ := (HL.out.below (HBw.out.trans (hb.mono HBw.out.size))).at' hjl
            obtain ⟨x2, hx2⟩ : ∃ x2, l[j] = x2 := ⟨_, rfl⟩
            have hox : OkIt x2 := Hok.out.2 x2 (by rw [← hx2]; exact List.getElem_mem hjl)
            rw [hx2] at y0 y1 y2 y3 y4 y5
            rw [Hn.out] at hv2 hcap2
            injection hv2 with hv1 hv3 hv4
            injection hv1 with hv1
            injection hv1 with hb' hoff'
            subst hb' hoff'
            have hp := pre_succ hjl
            rw [hx2] at hp
            have hpb := Hok.out.pre j
            have hpb2 := Hok.out.pre (j + 1)
            have co := own_any x2 hox wr
            have hjz : (j : Int) < (s : Int) := by omega
            have HR2 := hidden hr
            have HB2 := hidden hb
            have HP : Hid (m + x2.own + pre l k = pre l (j + 1)) := by unfold Hid; omega
            have hmb : m ≤ 1048576000 := by omega
            have hob : x2.own ≤ 1048576000 := by omega
            clear hr hb hox hx2 hv3 hv4 hp hm hcap2 hpb hpb2
            generalize x2.own = o at *
            go_wp2_with fail
            refine co.mono ?_
            clear co
            rintro e w4 ⟨rfl, hb4⟩
            have HR4 := hidden (row_grown HR2.out (grown_below hb4) (by simp))
            have HB4 := hidden (HB2.out.trans (hb4.mono HB2.out.size))
            clear hb4 y0 y1 y2 y3 y4 y5
            go_wp2_with fail
            go_roundw
            case rel => exact ⟨j + 1, m + o, by omega, by omega, by go_num, by go_num, HP.out, HR4.out, HB4.out⟩
            case measure => simp [intOf]; omega
          · have hjs2 : j = s := by omega
            have hjz : ¬ ((j : Int) < (s : Int)) := by omega
            rw [hjs2] at hm
            have hm2 : m = size (l.drop k) := by have := HSt.out; omega
            have hmb : m ≤ 1048576000 := by rw [hm2]; exact Hok.out.size k
            have hown := hr.alloc (.cells #[.int .i64 (m : Nat)] 3)
            have hlen : ((szs l).take k).length = k := by rw [List.length_take, szs_len, Hn.out]; omega
            rw [hlen] at hown
            have cn := cells_new wr 3 [.int .i64 (m : Nat)]
            have hB : w2.heap.size ≤ (wr.alloc (.cells #[.int .i64 (m : Nat)] 3)).heap.size := by have := hb.size; simp; omega
            have HB5 := hidden (hb.alloc hb.size (.cells #[.int .i64 (m : Nat)] 3))
            have HT : Hid ((szs l).take (k + 1) = (szs l).take k ++ [((m : Nat) : Int)]) := by unfold Hid; rw [hm2]; exact szs_take l (by rw [Hn.out]; omega)
            have HLN := hidden hlen
            have q3 : k + 1 ≤ maxLen := by unfold maxLen; omega
            have q4 : (k + 1) * 8 ≤ 140737488355328 := by omega
            clear hm2 hr hb hlen hm hj hjs hkj hjs2
            go_wp2_with (at_builtin; refine wpList_append_own _ rfl _ _ 26 rfl w2.heap.size 3 i3 (.int .i64 0) 1 8 Try.underlying26 hi3 hz3 hy3 hb3 rfl (by decide) _ _ _ rfl hown ⟨wr.heap.size, 0, none⟩ 1 1 [.int .i64 (m : Nat)] rfl rfl cn (one1 _ _) q3 q4 hB ?_)
            intro v' w7 hr7 hg7 _
            have HR7 : Hid (w7.ownsRow w2.heap.size 3 1 v' ((szs l).take (k + 1)).length (zs ((szs l).take (k + 1)))) := by
              unfold Hid
              rw [HT.out, List.length_append, List.length_singleton, HLN.out, zs_app]
              exact hr7
            have HB7 := hidden (HB5.out.grown hg7 hB (fun q hq => (hown.lt q hq).1))
            clear hr7 hg7 hown cn hB
            go_wp2_with fail
            go_roundw
            case rel => exact ⟨k + 1, by omega, by go_num, HR7.out, HB7.out⟩
            case measure => simp [intOf]; omega
      have z2 : ((y : Int) == 2) = false := by simp; omega
      by_cases k3 : y = 3
      · have z3 : ((y : Int) == 3) = true := by simp; omega
        have HK3 := hidden (HKD.out.trans k3)
        obtain ⟨zg, zc, hzv, hzc, zz⟩ := hZr.at' (ends_get l hll)
        rw [if_pos HK3.out] at zz
        rw [ends_len, Hn.out] at hzv hzc
        have hE := endI_le l k hll
        rw [Hn.out] at hE
        have hE1 := hE.1
        have hE2 := hE.2
        clear hE
        obtain ⟨en, hen⟩ : ∃ en, endI l k = en := ⟨_, rfl⟩
        have HEN := hidden hen
        rw [hen] at zz hE1 hE2
        clear hen hx
        by_cases hel : en < n
        · have hez : (en : Int) < (n : Int) := by omega
          have cx := next_any hLr hZr Hok.out en (by rw [Hn.out]; exact hel)
          rw [Hn.out] at cx
          subst hzv
          clear hZr hLr
          go_wp2_with fail
          refine cx.mono ?_
          clear cx
          rintro e w3 ⟨s, rfl, hfs, hsn, hps, rfl⟩
          have HSt : Hid (pre l s = pre l k + size (l.drop k)) := size_group hll HK3.out (by rw [HEN.out, Hn.out]; exact hel) (by rw [HEN.out]; exact hps)
          have hks : k ≤ s := by omega
          clear hps
          go_wp2_with fail
          go_loopw [7, 8] (fun sv jv wr => ∃ (j m : Nat), k ≤ j ∧ j ≤ s ∧ jv = .int .i64 (j : Nat) ∧ sv = .int .i64 (m : Nat) ∧ m + pre l k = pre l j ∧ wr.ownsRow w2.heap.size 3 1 u3 ((szs l).take k).length (zs ((szs l).take k)) ∧ Below w2.heap.size w2 wr) (fun _ jv _ => s - (intOf jv).toNat)
          case atStart => exact ⟨k, 0, Nat.le_refl _, hks, rfl, rfl, Nat.zero_add _, HR.out, HB.out⟩
          case round =>
            obtain ⟨j, m, hkj, hjs, rfl, rfl, hm, hr, hb⟩ := hrel
            by_cases hj : j < s
            · have hjn : j < n := by omega
              have hjl : j < l.length := by rw [Hn.out]; exact hjn
              obtain ⟨b2, off2, cp2, hv2, hcap2, y0, y1, y2, y3, y4, y5⟩ := (HL.out.below (HBw.out.trans (hb.mono HBw.out.size))).at' hjl
              obtain ⟨x2, hx2⟩ : ∃ x2, l[j] = x2 := ⟨_, rfl⟩
              have hox : OkIt x2 := Hok.out.2 x2 (by rw [← hx2]; exact List.getElem_mem hjl)
              rw [hx2] at y0 y1 y2 y3 y4 y5
              rw [Hn.out] at hv2 hcap2
              injection hv2 with hv1 hv3 hv4
              injection hv1 with hv1
              injection hv1 with hb' hoff'
              subst hb' hoff'
              have hp := pre_succ hjl
              rw [hx2] at hp
              have hpb := Hok.out.pre j
              have hpb2 := Hok.out.pre (j + 1)
              have co := own_any x2 hox wr
              have hjz : (j : Int) < (s : Int) := by omega
              have HR2 := hidden hr
              have HB2 := hidden hb
              have HP : Hid (m + x2.own + pre l k = pre l (j + 1)) := by unfold Hid; omega
              have hmb : m ≤ 1048576000 := by omega
              have hob : x2.own ≤ 1048576000 := by omega
              clear hr hb hox hx2 hv3 hv4 hp hm hcap2 hpb hpb2
              generalize x2.own = o at *
              go_wp2_with fail
              refine co.mono ?_
              clear co
              rintro e w4 ⟨rfl, hb4⟩
              have HR4 := hidden (row_grown HR2.out (grown_below hb4) (by simp))
              have HB4 := hidden (HB2.out.trans (hb4.mono HB2.out.size))
              clear hb4 y0 y1 y2 y3 y4 y5
              go_wp2_with fail
              go_roundw
              case rel => exact ⟨j + 1, m + o, by omega, by omega, by go_num, by go_num, HP.out, HR4.out, HB4.out⟩
              case measure => simp [intOf]; omega
            · have hjs2 : j = s := by omega
              have hjz : ¬ ((j : Int) < (s : Int)) := by omega
              rw [hjs2] at hm
              have hm2 : m = size (l.drop k) := by have := HSt.out; omega
              have hmb : m ≤ 1048576000 := by rw [hm2]; exact Hok.out.size k
              have hown := hr.alloc (.cells #[.int .i64 (m : Nat)] 3)
              have hlen : ((szs l).take k).length = k := by rw [List.length_take, szs_len, Hn.out]; omega
              rw [hlen] at hown
              have cn := cells_new wr 3 [.int .i64 (m : Nat)]
              have hB : w2.heap.size ≤ (wr.alloc (.cells #[.int .i64 (m : Nat)] 3)).heap.size := by have := hb.size; simp; omega
              have HB5 := hidden (hb.alloc hb.size (.cells #[.int .i64 (m : Nat)] 3))
              have HT : Hid ((szs l).take (k + 1) = (szs l).take k ++ [((m : Nat) : Int)]) := by unfold Hid; rw [hm2]; exact szs_take l (by rw [Hn.out]; omega)
              have HLN := hidden hlen
              have q3 : k + 1 ≤ maxLen := by unfold maxLen; omega
              have q4 : (k + 1) * 8 ≤ 140737488355328 := by omega
              clear hm2 hr hb hlen hm hj hjs hkj hjs2
              go_wp2_with (at_builtin; refine wpList_append_own _ rfl _ _ 26 rfl w2.heap.size 3 i3 (.int .i64 0) 1 8 Try.underlying26 hi3 hz3 hy3 hb3 rfl (by decide) _ _ _ rfl hown ⟨wr.heap.size, 0, none⟩ 1 1 [.int .i64 (m : Nat)] rfl rfl cn (one1 _ _) q3 q4 hB ?_)
              intro v' w7 hr7 hg7 _
              have HR7 : Hid (w7.ownsRow w2.heap.size 3 1 v' ((szs l).take (k + 1)).length (zs ((szs l).take (k + 1)))) := by
                unfold Hid
                rw [HT.out, List.length_append, List.length_singleton, HLN.out, zs_app]
                exact hr7
              have HB7 := hidden (HB5.out.grown hg7 hB (fun q hq => (hown.lt q hq).1))
              clear hr7 hg7 hown cn hB
              go_wp2_with fail
              go_roundw
              case rel => exact ⟨k + 1, by omega, by go_num, HR7.out, HB7.out⟩
              case measure => simp [intOf]; omega
        · have hez : ¬ ((en : Int) < (n : Int)) := by omega
          have HSt : Hid (pre l n = pre l k + size (l.drop k)) := by
            have h9 := size_open hll HK3.out (by rw [HEN.out, Hn.out]; omega)
            rw [Hn.out] at h9
            exact h9
          have hks : k ≤ n := by omega
          have hsn : n ≤ n := Nat.le_refl _
          subst hzv
          clear hZr hLr
          go_wp2_with fail
          go_loopw [7, 8] (fun sv jv wr => ∃ (j m : Nat), k ≤ j ∧ j ≤ n ∧ jv = .int .i64 (j : Nat) ∧ sv = .int .i64 (m : Nat) ∧ m + pre l k = pre l j ∧ wr.ownsRow w2.heap.size 3 1 u3 ((szs l).take k).length (zs ((szs l).take k)) ∧ Below w2.heap.size w2 wr) (fun _ jv _ => n - (intOf jv).toNat)
          case atStart => exact ⟨k, 0, Nat.le_refl _, hks, rfl, rfl, Nat.zero_add _, HR.out, HB.out⟩
          case round =>
            obtain ⟨j, m, hkj, hjs, rfl, rfl, hm, hr, hb⟩ := hrel
            by_cases hj : j < n
            · have hjn : j < n := by omega
              have hjl : j < l.length := by rw [Hn.out]; exact hjn
              obtain ⟨b2, off2, cp2, hv2, hcap2, y0, y1, y2, y3, y4, y5⟩ := (HL.out.below (HBw.out.trans (hb.mono HBw.out.size))).at' hjl
              obtain ⟨x2, hx2⟩ : ∃ x2, l[j] = x2 := ⟨_, rfl⟩
              have hox : OkIt x2 := Hok.out.2 x2 (by rw [← hx2]; exact List.getElem_mem hjl)
              rw [hx2] at y0 y1 y2 y3 y4 y5
              rw [Hn.out] at hv2 hcap2
              injection hv2 with hv1 hv3 hv4
              injection hv1 with hv1
              injection hv1 with hb' hoff'
              subst hb' hoff'
              have hp := pre_succ hjl
              rw [hx2] at hp
              have hpb := Hok.out.pre j
              have hpb2 := Hok.out.pre (j + 1)
              have co := own_any x2 hox wr
              have hjz : (j : Int) < (n : Int) := by omega
              have HR2 := hidden hr
              have HB2 := hidden hb
              have HP : Hid (m + x2.own + pre l k = pre l (j + 1)) := by unfold Hid; omega
              have hmb : m ≤ 1048576000 := by omega
              have hob : x2.own ≤ 1048576000 := by omega
              clear hr hb hox hx2 hv3 hv4 hp hm hcap2 hpb hpb2
              generalize x2.own = o at *
              go_wp2_with fail
              refine co.mono ?_
              clear co
              rintro e w4 ⟨rfl, hb4⟩
              have HR4 := hidden (row_grown HR2.out (grown_below hb4) (by simp))
              have HB4 := hidden (HB2.out.trans (hb4.mono HB2.out.size))
              clear hb4 y0 y1 y2 y3 y4 y5
              go_wp2_with fail
              go_roundw
              case rel => exact ⟨j + 1, m + o, by omega, by omega, by go_num, by go_num, HP.out, HR4.out, HB4.out⟩
              case measure => simp [intOf]; omega
            · have hjs2 : j = n := by omega
              have hjz : ¬ ((j : Int) < (n : Int)) := by omega
              rw [hjs2] at hm
              have hm2 : m = size (l.drop k) := by have := HSt.out; omega
              have hmb : m ≤ 1048576000 := by rw [hm2]; exact Hok.out.size k
              have hown := hr.alloc (.cells #[.int .i64 (m : Nat)] 3)
              have hlen : ((szs l).take k).length = k := by rw [List.length_take, szs_len, Hn.out]; omega
              rw [hlen] at hown
              have cn := cells_new wr 3 [.int .i64 (m : Nat)]
              have hB : w2.heap.size ≤ (wr.alloc (.cells #[.int .i64 (m : Nat)] 3)).heap.size := by have := hb.size; simp; omega
              have HB5 := hidden (hb.alloc hb.size (.cells #[.int .i64 (m : Nat)] 3))
              have HT : Hid ((szs l).take (k + 1) = (szs l).take k ++ [((m : Nat) : Int)]) := by unfold Hid; rw [hm2]; exact szs_take l (by rw [Hn.out]; omega)
              have HLN := hidden hlen
              have q3 : k + 1 ≤ maxLen := by unfold maxLen; omega
              have q4 : (k + 1) * 8 ≤ 140737488355328 := by omega
              clear hm2 hr hb hlen hm hj hjs hkj hjs2
              go_wp2_with (at_builtin; refine wpList_append_own _ rfl _ _ 26 rfl w2.heap.size 3 i3 (.int .i64 0) 1 8 Try.underlying26 hi3 hz3 hy3 hb3 rfl (by decide) _ _ _ rfl hown ⟨wr.heap.size, 0, none⟩ 1 1 [.int .i64 (m : Nat)] rfl rfl cn (one1 _ _) q3 q4 hB ?_)
              intro v' w7 hr7 hg7 _
              have HR7 : Hid (w7.ownsRow w2.heap.size 3 1 v' ((szs l).take (k + 1)).length (zs ((szs l).take (k + 1)))) := by
                unfold Hid
                rw [HT.out, List.length_append, List.length_singleton, HLN.out, zs_app]
                exact hr7
              have HB7 := hidden (HB5.out.grown hg7 hB (fun q hq => (hown.lt q hq).1))
              clear hr7 hg7 hown cn hB
              go_wp2_with fail
              go_roundw
              case rel => exact ⟨k + 1, by omega, by go_num, HR7.out, HB7.out⟩
              case measure => simp [intOf]; omega
      have z3 : ((y : Int) == 3) = false := by simp; omega
      have HSt : Hid (pre l k = pre l k + size (l.drop k)) := by
        unfold Hid
        rw [size_none hll (by rw [HKD.out]; exact k1) (by rw [HKD.out]; exact k2) (by rw [HKD.out]; exact k3)]
        rfl
      have hks : k ≤ k := Nat.le_refl _
      have hsn : k ≤ n := by omega
      clear hZr hLr hx
      go_wp2_with fail
      go_loopw [7, 8] (fun sv jv wr => ∃ (j m : Nat), k ≤ j ∧ j ≤ k ∧ jv = .int .i64 (j : Nat) ∧ sv = .int .i64 (m : Nat) ∧ m + pre l k = pre l j ∧ wr.ownsRow w2.heap.size 3 1 u3 ((szs l).take k).length (zs ((szs l).take k)) ∧ Below w2.heap.size w2 wr) (fun _ jv _ => k - (intOf jv).toNat)
      case atStart => exact ⟨k, 0, Nat.le_refl _, hks, rfl, rfl, Nat.zero_add _, HR.out, HB.out⟩
      case round =>
        obtain ⟨j, m, hkj, hjs, rfl, rfl, hm, hr, hb⟩ := hrel
        by_cases hj : j < k
        · have hjn : j < n := by omega
          have hjl : j < l.length := by rw [Hn.out]; exact hjn
          obtain ⟨b2, off2, cp2, hv2, hcap2, y0, y1, y2, y3, y4, y5⟩ := (HL.out.below (HBw.out.trans (hb.mono HBw.out.size))).at' hjl
          obtain ⟨x2, hx2⟩ : ∃ x2, l[j] = x2 := ⟨_, rfl⟩
          have hox : OkIt x2 := Hok.out.2 x2 (by rw [← hx2]; exact List.getElem_mem hjl)
          rw [hx2] at y0 y1 y2 y3 y4 y5
          rw [Hn.out] at hv2 hcap2
          injection hv2 with hv1 hv3 hv4
          injection hv1 with hv1
          injection hv1 with hb' hoff'
          subst hb' hoff'
          have hp := pre_succ hjl
          rw [hx2] at hp
          have hpb := Hok.out.pre j
          have hpb2 := Hok.out.pre (j + 1)
          have co := own_any x2 hox wr
          have hjz : (j : Int) < (k : Int) := by omega
          have HR2 := hidden hr
          have HB2 := hidden hb
          have HP : Hid (m + x2.own + pre l k = pre l (j + 1)) := by unfold Hid; omega
          have hmb : m ≤ 1048576000 := by omega
          have hob : x2.own ≤ 1048576000 := by omega
          clear hr hb hox hx2 hv3 hv4 hp hm hcap2 hpb hpb2
          generalize x2.own = o at *
          go_wp2_with fail
          refine co.mono ?_
          clear co
          rintro e w4 ⟨rfl, hb4⟩
          have HR4 := hidden (row_grown HR2.out (grown_below hb4) (by simp))
          have HB4 := hidden (HB2.out.trans (hb4.mono HB2.out.size))
          clear hb4 y0 y1 y2 y3 y4 y5
          go_wp2_with fail
          go_roundw
          case rel => exact ⟨j + 1, m + o, by omega, by omega, by go_num, by go_num, HP.out, HR4.out, HB4.out⟩
          case measure => simp [intOf]; omega
        · have hjs2 : j = k := by omega
          have hjz : ¬ ((j : Int) < (k : Int)) := by omega
          rw [hjs2] at hm
          have hm2 : m = size (l.drop k) := by have := HSt.out; omega
          have hmb : m ≤ 1048576000 := by rw [hm2]; exact Hok.out.size k
          have hown := hr.alloc (.cells #[.int .i64 (m : Nat)] 3)
          have hlen : ((szs l).take k).length = k := by rw [List.length_take, szs_len, Hn.out]; omega
          rw [hlen] at hown
          have cn := cells_new wr 3 [.int .i64 (m : Nat)]
          have hB : w2.heap.size ≤ (wr.alloc (.cells #[.int .i64 (m : Nat)] 3)).heap.size := by have := hb.size; simp; omega
          have HB5 := hidden (hb.alloc hb.size (.cells #[.int .i64 (m : Nat)] 3))
          have HT : Hid ((szs l).take (k + 1) = (szs l).take k ++ [((m : Nat) : Int)]) := by unfold Hid; rw [hm2]; exact szs_take l (by rw [Hn.out]; omega)
          have HLN := hidden hlen
          have q3 : k + 1 ≤ maxLen := by unfold maxLen; omega
          have q4 : (k + 1) * 8 ≤ 140737488355328 := by omega
          clear hm2 hr hb hlen hm hj hjs hkj hjs2
          go_wp2_with (at_builtin; refine wpList_append_own _ rfl _ _ 26 rfl w2.heap.size 3 i3 (.int .i64 0) 1 8 Try.underlying26 hi3 hz3 hy3 hb3 rfl (by decide) _ _ _ rfl hown ⟨wr.heap.size, 0, none⟩ 1 1 [.int .i64 (m : Nat)] rfl rfl cn (one1 _ _) q3 q4 hB ?_)
          intro v' w7 hr7 hg7 _
          have HR7 : Hid (w7.ownsRow w2.heap.size 3 1 v' ((szs l).take (k + 1)).length (zs ((szs l).take (k + 1)))) := by
            unfold Hid
            rw [HT.out, List.length_append, List.length_singleton, HLN.out, zs_app]
            exact hr7
          have HB7 := hidden (HB5.out.grown hg7 hB (fun q hq => (hown.lt q hq).1))
          clear hr7 hg7 hown cn hB
          go_wp2_with fail
          go_roundw
          case rel => exact ⟨k + 1, by omega, by go_num, HR7.out, HB7.out⟩
          case measure => simp [intOf]; omega
    · have hlz : ¬ ((k : Int) < (n : Int)) := by omega
      have hkn : k = n := by omega
      have hto : (szs l).take k = szs l := List.take_of_length_le (by rw [szs_len, Hn.out]; omega)
      rw [hto] at hr
      have HR := hidden hr
      have HB := hidden (HBw.out.trans (hb.mono HBw.out.size))
      clear hr hb hkn hto
      go_wp2_with fail
      go_ret
      exact ⟨_, rfl, isZ_of HR.out, HB.out⟩
end Go.Proofs.PlatenLayout
