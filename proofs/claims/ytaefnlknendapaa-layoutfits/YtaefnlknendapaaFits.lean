/- a group around all of it whose size is not above the width stands on one line, with no line end in it. -/
import Derived.Test.YtaefnlknendapaaArgs
import Derived.Test.YtaefnlknendapaaRows
import Derived.Test.YtaefnlknendapaaPtG
import Derived.Test.YtaefnlknendapaaLzE
import Derived.Test.YtaefnlknendapaaLwI
import Derived.ProofKit
import Derived.OpenShut
import Derived.ChangeOld
namespace Go.Proofs.Ytaefnlknendapaa.Fits
open Go Go.ChangeShapes Go.WideShapes Go.ChangeAt Go.RowKit Go.Shelf Go.Proofs.PlatenLayout Go.Proofs.Ytaefnlknendapaa
set_option linter.unusedVariables false
set_option maxRecDepth 100000

set_option maxHeartbeats 1000000 in
theorem long (v : Value) (l : List Pt) (wd : Int) (w : World) (h : IsParts w v l) (hl : 60 < l.length) : Calls Try.prog 6 #[v, .int .i16 wd] w fun e w' => e = .returned (.bool true) ∧ Below w.heap.size w w' := by
  obtain ⟨hll, a, cap, rfl, _⟩ := h
  obtain ⟨n, hn⟩ : ∃ n, l.length = n := ⟨_, rfl⟩
  rw [hn] at hl hll ⊢
  clear hn
  have hz : ((n : Int) > 60) := by omega
  have c := group_any w
  go_enter Try.func6, Try.ntmps6
  go_wp2_with fail
  refine c.mono ?_
  rintro e w1 ⟨rfl, hb1⟩
  have c1 := group_any w1
  have HB1 := hidden hb1
  have hsz := hb1.size
  clear hb1
  go_wp2_with fail
  refine c1.mono ?_
  rintro e w2 ⟨rfl, hb2⟩
  have HB2 := hidden (HB1.out.trans (hb2.mono hsz))
  clear hb2
  go_wp2_with fail
  go_ret
  exact ⟨rfl, HB2.out⟩

theorem wg_eq : (rowI [wG]).toArray = #[.int .u8 3, .string { data := #[] }, .int .i64 0, .int .i64 0, .bool false, .bool true] := by kernel_rfl
set_option maxHeartbeats 4000000 in
theorem law (v : Value) (l : List Pt) (wd : Int) (w : World) (h : IsParts w v l) (hwd : -32768 ≤ wd ∧ wd ≤ 32767) : Calls Try.prog 6 #[v, .int .i16 wd] w fun e w' => e = .returned (.bool true) ∧ Below w.heap.size w w' := by
  by_cases hl : 60 < l.length
  · exact long v l wd w h hl
  obtain ⟨i38, hi38, hz38, hy38, hb38⟩ := info_parts info38
  have wz : IntKind.i64.wrap wd = wd := IntWalk.i64_in _ (by omega)
  obtain ⟨hll, a, cap, e0, _⟩ := id h
  have HP := hidden h
  clear h
  subst e0
  obtain ⟨n, hn⟩ : ∃ n, l.length = n := ⟨_, rfl⟩
  have hl60 : l.length ≤ 60 := by omega
  rw [hn] at hl hll ⊢
  have hnz : ¬ ((n : Int) > 60) := by omega
  have Hnl := hidden hn
  clear hn
  have c := group_any w
  go_enter Try.func6, Try.ntmps6
  go_wp2_with fail
  refine c.mono ?_
  rintro e w1 ⟨rfl, hb1⟩
  obtain ⟨K, hK⟩ : ∃ K, (w1.alloc (.cells #[.int .u8 3, .string { data := #[] }, .int .i64 0, .int .i64 0, .bool false, .bool true] 38)).heap.size = K := ⟨_, rfl⟩
  have hK1 : w1.heap.size + 1 = K := by rw [← hK]; simp
  have hB1 : Below w.heap.size w (w1.alloc (.cells #[.int .u8 3, .string { data := #[] }, .int .i64 0, .int .i64 0, .bool false, .bool true] 38)) := hb1.alloc hb1.size _
  have ci := items_any (HP.out.below hB1) (by omega)
  rw [Hnl.out, hK] at ci
  have hR1 : (w1.alloc (.cells #[.int .u8 3, .string { data := #[] }, .int .i64 0, .int .i64 0, .bool false, .bool true] 38)).ownsRow w.heap.size 38 6 (.slice (some ⟨w1.heap.size, 0, none⟩) 1 1) 1 (rowI [wG]) := by
    have := row_new w.heap.size w1 [wG] hb1.size (by decide)
    rw [wg_eq] at this
    exact this
  have HR1 := hidden hR1
  have HR1K : ∀ q, (Value.slice (some ⟨w1.heap.size, 0, none⟩) 1 1).ownBlock = some q → q < K := fun q hq => by have := (hR1.lt q hq).2; rw [hK] at this; exact this
  have HB1 := hidden hB1
  have HKE := hidden hK
  have Hok := hidden (itemsOk HP.out (by omega))
  have HFI : Hid (∀ x ∈ l.map itemOf, Fine x) := fun x hx => by
    obtain ⟨p, _, rfl⟩ := List.mem_map.1 hx
    exact fine_item p
  have hszK : w.heap.size ≤ K := by have := hb1.size; omega
  clear hb1 hB1 hR1 HP hK
  go_wp2_with fail
  refine ci.mono ?_
  clear ci
  rintro e w2 ⟨u, rfl, hr2, hb2⟩
  have hKw2 : K ≤ w2.heap.size := by have := hb2.size; rw [HKE.out] at this; exact this
  have hB2 := HB1.out.trans (hb2.mono hszK)
  have HB2 := hidden hB2
  have HRW := hidden (row_same HR1.out (fun q hq => hb2.block q (by have := (HR1.out.lt q hq).2; rw [HKE.out] at this; exact this)))
  obtain ⟨ia, icap, rfl⟩ := row_slice hr2
  obtain ⟨L, hL⟩ : ∃ L, l.map itemOf = L := ⟨_, rfl⟩
  rw [hL] at Hok HFI hr2
  have hLn : L.length = n := by rw [← hL, List.length_map]; exact Hnl.out
  have HI : Hid (∀ wr, Mid K w2 wr → IsItems wr (.slice ia n icap) L) := fun wr h => h.items (by rw [hLn]; exact hr2)
  have HLn := hidden hLn
  clear hb2 hB2 hr2 hL hLn HR1 HB1 Hnl HKE
  go_wp2_with fail
  go_loopw [5, 6, 8] (fun ov dv iv wr => ∃ k : Nat, k ≤ n ∧ iv = .int .i64 (k : Nat) ∧ dv = .int .i64 (dp L k : Nat) ∧ wr.ownsRow w.heap.size 38 6 ov (FL L k 0).length (rowI (FL L k 0)) ∧ Far K w2 ov ∧ Mid K w2 wr ∧ Below w.heap.size w wr) (fun _ _ iv _ => n - (intOf iv).toNat)
  case atStart => exact ⟨0, Nat.zero_le _, rfl, rfl, HRW.out, fun q hq => by have := (HR1K q hq); omega, Mid.refl _ _, HB2.out⟩
  case round =>
    obtain ⟨k, hk, rfl, rfl, hr, hfar, hmid, hb⟩ := hrel
    have hfl := fl_len L k 0
    have hdpk := dp_le L k
    obtain ⟨N, hN⟩ : ∃ N, (FL L k 0).length = N := ⟨_, rfl⟩
    rw [hN] at hr hfl
    obtain ⟨oa, oc, rfl⟩ := row_slice hr
    obtain ⟨d, hd⟩ : ∃ d, dp L k = d := ⟨_, rfl⟩
    rw [hd] at hdpk ⊢
    have HD := hidden hd
    have HR := hidden hr
    have HFA := hidden hfar
    have HMI := hidden hmid
    have HB := hidden hb
    have HN := hidden hN
    clear hr hfar hb hd hN
    by_cases hlt : k < n
    · have hlz : (k : Int) < (n : Int) := by omega
      have hkl : k < L.length := by rw [HLn.out]; exact hlt
      obtain ⟨b, off, cap', hv, _, q0, q1, q2, q3, q4, q5⟩ := (HI.out wr hmid).at' hkl
      have hok := Hok.out.2 _ (List.getElem_mem hkl)
      obtain ⟨x, hx⟩ : ∃ x, L[k] = x := ⟨_, rfl⟩
      have HX := hidden hx
      rw [hx] at q0 q1 q2 q3 q4 q5 hok
      injection hv with hv1 hv2 hv3
      subst hv1 hv3
      have hkk := hok.kind
      clear hv2 hx hok hmid
      have HXB := hidden (HB.out.alloc HB.out.size (.cells #[.int .u8 (x.kind : Nat), .string (str x.tx), .int .i64 x.n, .int .i64 x.off, .bool x.col, .bool x.whole] 38))
      have HXM := hidden (HMI.out.alloc (.cells #[.int .u8 (x.kind : Nat), .string (str x.tx), .int .i64 x.n, .int .i64 x.off, .bool x.col, .bool x.whole] 38))
      have HXR := hidden (HR.out.alloc (.cells #[.int .u8 (x.kind : Nat), .string (str x.tx), .int .i64 x.n, .int .i64 x.off, .bool x.col, .bool x.whole] 38))
      have HS0 := hidden (fl_step L k hkl)
      have HDS : Hid (dp L (k + 1) = if x.kind = 3 then d + 1 else if x.kind = 4 then d - 1 else d) := by
        unfold Hid
        show (if kd L k = 3 then _ else if kd L k = 4 then _ else _) = _
        rw [kd_get hkl, HX.out, HD.out]
      by_cases k3 : x.kind = 3
      · have HST : Hid (FL L (k + 1) 0 = FL L k 0 ++ [x]) := by unfold Hid; rw [HS0.out, HX.out, if_neg (by omega)]
        have HDN : Hid (dp L (k + 1) = d + 1) := by unfold Hid; rw [HDS.out, if_pos k3]
        have z3 : (((x.kind : Nat) : Int) == 3) = true := by simp; omega
        have z4 : (((x.kind : Nat) : Int) == 4) = false := by simp; omega
        clear k3 HS0 HDS
        have hown := (HXR.out).alloc (.cells #[.int .u8 (x.kind : Nat), .string (str x.tx), .int .i64 x.n, .int .i64 x.off, .bool x.col, .bool x.whole] 38)
        have hbF : Below w.heap.size w ((wr.alloc (.cells #[.int .u8 (x.kind : Nat), .string (str x.tx), .int .i64 x.n, .int .i64 x.off, .bool x.col, .bool x.whole] 38))) := HXB.out
        have hBs : w.heap.size ≤ (((wr.alloc (.cells #[.int .u8 (x.kind : Nat), .string (str x.tx), .int .i64 x.n, .int .i64 x.off, .bool x.col, .bool x.whole] 38))).alloc (.cells #[.int .u8 (x.kind : Nat), .string (str x.tx), .int .i64 x.n, .int .i64 x.off, .bool x.col, .bool x.whole] 38)).heap.size := Nat.le_trans hbF.size (by simp only [World.size_alloc]; omega)
        have cn := cells_new ((wr.alloc (.cells #[.int .u8 (x.kind : Nat), .string (str x.tx), .int .i64 x.n, .int .i64 x.off, .bool x.col, .bool x.whole] 38))) 38 [.int .u8 (x.kind : Nat), .string (str x.tx), .int .i64 x.n, .int .i64 x.off, .bool x.col, .bool x.whole]
        have hszF : ((wr.alloc (.cells #[.int .u8 (x.kind : Nat), .string (str x.tx), .int .i64 x.n, .int .i64 x.off, .bool x.col, .bool x.whole] 38))).heap.size = (wr.heap.size + 1) := by simp
        rw [hszF] at cn
        have HBF := hidden (hbF.alloc hbF.size (.cells #[.int .u8 (x.kind : Nat), .string (str x.tx), .int .i64 x.n, .int .i64 x.off, .bool x.col, .bool x.whole] 38))
        have HMF := hidden ((HXM.out).alloc (.cells #[.int .u8 (x.kind : Nat), .string (str x.tx), .int .i64 x.n, .int .i64 x.off, .bool x.col, .bool x.whole] 38))
        have q3 : N + 1 ≤ maxLen := by unfold maxLen; omega
        have q4 : (N + 1) * 48 ≤ 140737488355328 := by omega
        have one6 : ∀ u ∈ ([.int .u8 (x.kind : Nat), .string (str x.tx), .int .i64 x.n, .int .i64 x.off, .bool x.col, .bool x.whole] : List Value), u.oneCell' = true := by
          intro u hu
          simp only [List.mem_cons, List.not_mem_nil, or_false] at hu
          rcases hu with rfl | rfl | rfl | rfl | rfl | rfl <;> rfl
        clear hbF hszF
        go_wp2_with (at_builtin; refine wpList_append_at _ rfl _ _ 24 rfl w.heap.size 38 i38 (.agg #[.int .u8 0, .string ByteArray.empty, .int .i64 0, .int .i64 0, .bool false, .bool false]) 6 48 Try.underlying24 hi38 hz38 hy38 hb38 rfl (by decide) _ _ _ rfl hown ⟨(wr.heap.size + 1), 0, none⟩ 1 1 [.int .u8 (x.kind : Nat), .string (str x.tx), .int .i64 x.n, .int .i64 x.off, .bool x.col, .bool x.whole] rfl rfl cn one6 q3 q4 hBs (by decide) ?_)
        intro v7 w7 hr7 hg7 hat7
        have HBX := hidden (HBF.out.grown hg7 hBs (fun q hq => (hown.lt q hq).1))
        have HMX := hidden (HMF.out.grown hg7 (HFA.out))
        have HFX := hidden (Far.next (HFA.out) HMF.out.1 (by simpa using hat7))
        clear hg7 hown cn hBs hat7 HMF HBF
        have HR7 : Hid (w7.ownsRow w.heap.size 38 6 v7 (FL L (k + 1) 0).length (rowI (FL L (k + 1) 0))) := by
          unfold Hid
          rw [HST.out, rowI_app, rowI_one, List.length_append, HN.out]
          exact hr7
        obtain ⟨xa, xc, rfl⟩ := row_slice hr7
        clear hr7
        go_wp2_with fail
        go_roundw
        case rel => exact ⟨k + 1, hlt, by go_num, by rw [HDN.out] <;> go_num, HR7.out, HFX.out, HMX.out, HBX.out⟩
        case measure => simp [intOf] <;> omega
      have z3 : (((x.kind : Nat) : Int) == 3) = false := by simp; omega
      by_cases k4 : x.kind = 4
      · by_cases d0 : d = 0
        · have HST : Hid (FL L (k + 1) 0 = FL L k 0) := by unfold Hid; rw [HS0.out, HX.out, HD.out, if_pos ⟨k4, d0⟩, List.append_nil]
          have HDN : Hid (dp L (k + 1) = d) := by unfold Hid; rw [HDS.out, if_neg k3, if_pos k4, d0]
          have z4 : (((x.kind : Nat) : Int) == 4) = true := by simp; omega
          have zd : (d : Int) = 0 := by omega
          clear k3 k4 HS0 HDS d0
          go_wp2_with fail
          go_roundw
          case rel => exact ⟨k + 1, hlt, by go_num, by rw [HDN.out], by rw [HST.out, HN.out]; exact HXR.out, HFA.out, HXM.out, HXB.out⟩
          case measure => simp [intOf] <;> omega
        · obtain ⟨d', rfl⟩ : ∃ d', d = d' + 1 := ⟨d - 1, by omega⟩
          have HST : Hid (FL L (k + 1) 0 = FL L k 0 ++ [x]) := by unfold Hid; rw [HS0.out, HX.out, HD.out, if_neg (fun q => d0 q.2)]
          have HDN : Hid (dp L (k + 1) = d') := by unfold Hid; rw [HDS.out, if_neg k3, if_pos k4]; rfl
          have z4 : (((x.kind : Nat) : Int) == 4) = true := by simp; omega
          have zd : ¬ (((d' + 1 : Nat) : Int) = 0) := by omega
          clear k3 k4 HS0 HDS d0
          have hown := (HXR.out).alloc (.cells #[.int .u8 (x.kind : Nat), .string (str x.tx), .int .i64 x.n, .int .i64 x.off, .bool x.col, .bool x.whole] 38)
          have hbF : Below w.heap.size w ((wr.alloc (.cells #[.int .u8 (x.kind : Nat), .string (str x.tx), .int .i64 x.n, .int .i64 x.off, .bool x.col, .bool x.whole] 38))) := HXB.out
          have hBs : w.heap.size ≤ (((wr.alloc (.cells #[.int .u8 (x.kind : Nat), .string (str x.tx), .int .i64 x.n, .int .i64 x.off, .bool x.col, .bool x.whole] 38))).alloc (.cells #[.int .u8 (x.kind : Nat), .string (str x.tx), .int .i64 x.n, .int .i64 x.off, .bool x.col, .bool x.whole] 38)).heap.size := Nat.le_trans hbF.size (by simp only [World.size_alloc]; omega)
          have cn := cells_new ((wr.alloc (.cells #[.int .u8 (x.kind : Nat), .string (str x.tx), .int .i64 x.n, .int .i64 x.off, .bool x.col, .bool x.whole] 38))) 38 [.int .u8 (x.kind : Nat), .string (str x.tx), .int .i64 x.n, .int .i64 x.off, .bool x.col, .bool x.whole]
          have hszF : ((wr.alloc (.cells #[.int .u8 (x.kind : Nat), .string (str x.tx), .int .i64 x.n, .int .i64 x.off, .bool x.col, .bool x.whole] 38))).heap.size = (wr.heap.size + 1) := by simp
          rw [hszF] at cn
          have HBF := hidden (hbF.alloc hbF.size (.cells #[.int .u8 (x.kind : Nat), .string (str x.tx), .int .i64 x.n, .int .i64 x.off, .bool x.col, .bool x.whole] 38))
          have HMF := hidden ((HXM.out).alloc (.cells #[.int .u8 (x.kind : Nat), .string (str x.tx), .int .i64 x.n, .int .i64 x.off, .bool x.col, .bool x.whole] 38))
          have q3 : N + 1 ≤ maxLen := by unfold maxLen; omega
          have q4 : (N + 1) * 48 ≤ 140737488355328 := by omega
          have one6 : ∀ u ∈ ([.int .u8 (x.kind : Nat), .string (str x.tx), .int .i64 x.n, .int .i64 x.off, .bool x.col, .bool x.whole] : List Value), u.oneCell' = true := by
            intro u hu
            simp only [List.mem_cons, List.not_mem_nil, or_false] at hu
            rcases hu with rfl | rfl | rfl | rfl | rfl | rfl <;> rfl
          clear hbF hszF
          go_wp2_with (at_builtin; refine wpList_append_at _ rfl _ _ 24 rfl w.heap.size 38 i38 (.agg #[.int .u8 0, .string ByteArray.empty, .int .i64 0, .int .i64 0, .bool false, .bool false]) 6 48 Try.underlying24 hi38 hz38 hy38 hb38 rfl (by decide) _ _ _ rfl hown ⟨(wr.heap.size + 1), 0, none⟩ 1 1 [.int .u8 (x.kind : Nat), .string (str x.tx), .int .i64 x.n, .int .i64 x.off, .bool x.col, .bool x.whole] rfl rfl cn one6 q3 q4 hBs (by decide) ?_)
          intro v7 w7 hr7 hg7 hat7
          have HBX := hidden (HBF.out.grown hg7 hBs (fun q hq => (hown.lt q hq).1))
          have HMX := hidden (HMF.out.grown hg7 (HFA.out))
          have HFX := hidden (Far.next (HFA.out) HMF.out.1 (by simpa using hat7))
          clear hg7 hown cn hBs hat7 HMF HBF
          have HR7 : Hid (w7.ownsRow w.heap.size 38 6 v7 (FL L (k + 1) 0).length (rowI (FL L (k + 1) 0))) := by
            unfold Hid
            rw [HST.out, rowI_app, rowI_one, List.length_append, HN.out]
            exact hr7
          obtain ⟨xa, xc, rfl⟩ := row_slice hr7
          clear hr7
          go_wp2_with fail
          go_roundw
          case rel => exact ⟨k + 1, hlt, by go_num, by rw [HDN.out] <;> go_num, HR7.out, HFX.out, HMX.out, HBX.out⟩
          case measure => simp [intOf] <;> omega
      have z4 : (((x.kind : Nat) : Int) == 4) = false := by simp; omega
      have HST : Hid (FL L (k + 1) 0 = FL L k 0 ++ [x]) := by unfold Hid; rw [HS0.out, HX.out, if_neg (fun q => k4 q.1)]
      have HDN : Hid (dp L (k + 1) = d) := by unfold Hid; rw [HDS.out, if_neg k3, if_neg k4]
      clear k3 k4 HS0 HDS
      have hown := (HXR.out).alloc (.cells #[.int .u8 (x.kind : Nat), .string (str x.tx), .int .i64 x.n, .int .i64 x.off, .bool x.col, .bool x.whole] 38)
      have hbF : Below w.heap.size w ((wr.alloc (.cells #[.int .u8 (x.kind : Nat), .string (str x.tx), .int .i64 x.n, .int .i64 x.off, .bool x.col, .bool x.whole] 38))) := HXB.out
      have hBs : w.heap.size ≤ (((wr.alloc (.cells #[.int .u8 (x.kind : Nat), .string (str x.tx), .int .i64 x.n, .int .i64 x.off, .bool x.col, .bool x.whole] 38))).alloc (.cells #[.int .u8 (x.kind : Nat), .string (str x.tx), .int .i64 x.n, .int .i64 x.off, .bool x.col, .bool x.whole] 38)).heap.size := Nat.le_trans hbF.size (by simp only [World.size_alloc]; omega)
      have cn := cells_new ((wr.alloc (.cells #[.int .u8 (x.kind : Nat), .string (str x.tx), .int .i64 x.n, .int .i64 x.off, .bool x.col, .bool x.whole] 38))) 38 [.int .u8 (x.kind : Nat), .string (str x.tx), .int .i64 x.n, .int .i64 x.off, .bool x.col, .bool x.whole]
      have hszF : ((wr.alloc (.cells #[.int .u8 (x.kind : Nat), .string (str x.tx), .int .i64 x.n, .int .i64 x.off, .bool x.col, .bool x.whole] 38))).heap.size = (wr.heap.size + 1) := by simp
      rw [hszF] at cn
      have HBF := hidden (hbF.alloc hbF.size (.cells #[.int .u8 (x.kind : Nat), .string (str x.tx), .int .i64 x.n, .int .i64 x.off, .bool x.col, .bool x.whole] 38))
      have HMF := hidden ((HXM.out).alloc (.cells #[.int .u8 (x.kind : Nat), .string (str x.tx), .int .i64 x.n, .int .i64 x.off, .bool x.col, .bool x.whole] 38))
      have q3 : N + 1 ≤ maxLen := by unfold maxLen; omega
      have q4 : (N + 1) * 48 ≤ 140737488355328 := by omega
      have one6 : ∀ u ∈ ([.int .u8 (x.kind : Nat), .string (str x.tx), .int .i64 x.n, .int .i64 x.off, .bool x.col, .bool x.whole] : List Value), u.oneCell' = true := by
        intro u hu
        simp only [List.mem_cons, List.not_mem_nil, or_false] at hu
        rcases hu with rfl | rfl | rfl | rfl | rfl | rfl <;> rfl
      clear hbF hszF
      go_wp2_with (at_builtin; refine wpList_append_at _ rfl _ _ 24 rfl w.heap.size 38 i38 (.agg #[.int .u8 0, .string ByteArray.empty, .int .i64 0, .int .i64 0, .bool false, .bool false]) 6 48 Try.underlying24 hi38 hz38 hy38 hb38 rfl (by decide) _ _ _ rfl hown ⟨(wr.heap.size + 1), 0, none⟩ 1 1 [.int .u8 (x.kind : Nat), .string (str x.tx), .int .i64 x.n, .int .i64 x.off, .bool x.col, .bool x.whole] rfl rfl cn one6 q3 q4 hBs (by decide) ?_)
      intro v7 w7 hr7 hg7 hat7
      have HBX := hidden (HBF.out.grown hg7 hBs (fun q hq => (hown.lt q hq).1))
      have HMX := hidden (HMF.out.grown hg7 (HFA.out))
      have HFX := hidden (Far.next (HFA.out) HMF.out.1 (by simpa using hat7))
      clear hg7 hown cn hBs hat7 HMF HBF
      have HR7 : Hid (w7.ownsRow w.heap.size 38 6 v7 (FL L (k + 1) 0).length (rowI (FL L (k + 1) 0))) := by
        unfold Hid
        rw [HST.out, rowI_app, rowI_one, List.length_append, HN.out]
        exact hr7
      obtain ⟨xa, xc, rfl⟩ := row_slice hr7
      clear hr7
      go_wp2_with fail
      go_roundw
      case rel => exact ⟨k + 1, hlt, by go_num, by rw [HDN.out] <;> go_num, HR7.out, HFX.out, HMX.out, HBX.out⟩
      case measure => simp [intOf] <;> omega
    · have hlz : ¬ ((k : Int) < (n : Int)) := by omega
      obtain rfl : k = n := by omega
      have hLk := HLn.out
      obtain ⟨q, hsg, hq10, hlay⟩ := fl_fits HFI.out (by omega)
      rw [hLk, HD.out] at hsg hlay
      have HSG := hidden hsg
      have HQ10 := hidden hq10
      have HLAY := hidden hlay
      have hFM : ∀ j, j ≤ d + 1 → (FL L k j).length ≤ 1 + k + j := fun j _ => fl_len L k j
      have HFM := hidden hFM
      have HRW2 : Hid (wr.ownsRow w.heap.size 38 6 (.slice oa N oc) (FL L k 0).length (rowI (FL L k 0))) := by unfold Hid; rw [HN.out]; exact HR.out
      clear hsg hq10 hlay hFM hLk hmid HR HFA HMI
      go_wp2_with fail
      go_loopw [5, 10] (fun ov jv wr => ∃ j : Nat, j ≤ d + 1 ∧ jv = .int .i64 (j : Nat) ∧ wr.ownsRow w.heap.size 38 6 ov (FL L k j).length (rowI (FL L k j)) ∧ Below w.heap.size w wr) (fun _ jv _ => d + 1 - (intOf jv).toNat)
      case atStart => exact ⟨0, Nat.zero_le _, rfl, HRW2.out, HB.out⟩
      case round =>
        obtain ⟨j, hj, rfl, hr, hb⟩ := hrel
        have hfl := HFM.out j hj
        obtain ⟨N2, hN2⟩ : ∃ N2, (FL L k j).length = N2 := ⟨_, rfl⟩
        rw [hN2] at hr hfl
        obtain ⟨pa, pc, rfl⟩ := row_slice hr
        have HR2 := hidden hr
        have HB2 := hidden hb
        have HN2 := hidden hN2
        clear hr hb hN2
        by_cases hjd : j ≤ d
        · have hjz : (j : Int) ≤ (d : Int) := by omega
          have HST := hidden (fl_end L k j)
          have hown := (HR2.out).alloc (.cells #[.int .u8 4, .string { data := #[] }, .int .i64 0, .int .i64 0, .bool false, .bool false] 38)
          have hbF : Below w.heap.size w (wr) := HB2.out
          have hBs : w.heap.size ≤ ((wr).alloc (.cells #[.int .u8 4, .string { data := #[] }, .int .i64 0, .int .i64 0, .bool false, .bool false] 38)).heap.size := by have := hbF.size; simp only [World.size_alloc]; omega
          have cn := cells_new (wr) 38 [.int .u8 4, .string { data := #[] }, .int .i64 0, .int .i64 0, .bool false, .bool false]
          have HBF := hidden (hbF.alloc hbF.size (.cells #[.int .u8 4, .string { data := #[] }, .int .i64 0, .int .i64 0, .bool false, .bool false] 38))
          have q3 : N2 + 1 ≤ maxLen := by unfold maxLen; omega
          have q4 : (N2 + 1) * 48 ≤ 140737488355328 := by omega
          have one6 : ∀ u ∈ ([.int .u8 4, .string { data := #[] }, .int .i64 0, .int .i64 0, .bool false, .bool false] : List Value), u.oneCell' = true := by
            intro u hu
            simp only [List.mem_cons, List.not_mem_nil, or_false] at hu
            rcases hu with rfl | rfl | rfl | rfl | rfl | rfl <;> rfl
          clear hbF
          go_wp2_with (at_builtin; refine wpList_append_own _ rfl _ _ 24 rfl w.heap.size 38 i38 (.agg #[.int .u8 0, .string ByteArray.empty, .int .i64 0, .int .i64 0, .bool false, .bool false]) 6 48 Try.underlying24 hi38 hz38 hy38 hb38 rfl (by decide) _ _ _ rfl hown ⟨wr.heap.size, 0, none⟩ 1 1 [.int .u8 4, .string { data := #[] }, .int .i64 0, .int .i64 0, .bool false, .bool false] rfl rfl cn one6 q3 q4 hBs ?_)
          intro v7 w7 hr7 hg7 _
          have HBX := hidden (HBF.out.grown hg7 hBs (fun q hq => (hown.lt q hq).1))
          clear hg7 hown cn hBs
          have HR7 : Hid (w7.ownsRow w.heap.size 38 6 v7 (FL L k (j + 1)).length (rowI (FL L k (j + 1)))) := by
            unfold Hid
            rw [HST.out, rowI_app, rowI_one, List.length_append, HN2.out]
            exact hr7
          obtain ⟨xa, xc, rfl⟩ := row_slice hr7
          clear hr7
          go_wp2_with fail
          go_roundw
          case rel => exact ⟨j + 1, by omega, by go_num, HR7.out, HBX.out⟩
          case measure => simp [intOf] <;> omega
        · have hjz : ¬ ((j : Int) ≤ (d : Int)) := by omega
          obtain rfl : j = d + 1 := by omega
          have ok : OkL (FL L k (d + 1)) := fl_ok Hok.out.2 k (d + 1) (by omega)
          have hI : IsItems wr (.slice pa N2 pc) (FL L k (d + 1)) := isItems_of (by rw [HN2.out]; exact HR2.out)
          have c1 := rsizes_any hI ok
          have hMb := ok.size 0
          rw [List.drop_zero] at hMb
          have hget := szs_get (FL L k (d + 1)) (i := 0) (by unfold FL; simp)
          rw [List.drop_zero] at hget
          obtain ⟨M, hM⟩ : ∃ M, size (FL L k (d + 1)) = M := ⟨_, rfl⟩
          rw [hM] at hMb hget HSG HLAY
          have HI2 := hidden hI
          have HO := hidden ok
          have HGET := hidden hget
          have hszr : w.heap.size ≤ wr.heap.size := HB2.out.size
          clear hI ok hget hM
          go_wp2_with fail
          refine c1.mono ?_
          rintro e w4 ⟨z, rfl, hz, hb4⟩
          obtain ⟨zg, zc, rfl, hzc, hz0⟩ := hz.at' HGET.out
          rw [szs_len, HN2.out] at hzc ⊢
          have hN0 : 0 < N2 := by rw [← HN2.out]; unfold FL; simp
          have hi4 := HI2.out.below hb4
          have HI4 := hidden hi4
          have hB4 := HB2.out.trans (hb4.mono hszr)
          have HB4 := hidden hB4
          have hsz4 : w.heap.size ≤ w4.heap.size := hB4.size
          have c2 := lay_any hi4 HO.out wd (by omega)
          clear hz hb4 hi4 hB4 hszr
          go_wp2_with fail
          refine c2.mono ?_
          rintro e w5 ⟨hres, hb5⟩
          have hi5 := HI4.out.below hb5
          have hB5 := HB4.out.trans (hb5.mono hsz4)
          have HB5 := hidden hB5
          have hsz5 : w.heap.size ≤ w5.heap.size := hB5.size
          have c3 := rlay_any hi5 HO.out 1048576 (by omega)
          clear hi5 hb5 hB5 hz0
          by_cases hfit : (M : Int) ≤ wd
          · have HL1 := hidden (HLAY.out wd hfit (by omega))
            have HL2 := hidden (HLAY.out 1048576 (by omega) (by omega))
            rw [HL1.out] at hres
            rw [HL2.out] at c3
            obtain ⟨q1, q2⟩ := lay_some HO.out HL1.out
            have HQ1 := hidden q1
            have e1 : e = .returned (.tuple #[.string (str q), .int .i64 0]) := hres
            subst e1
            obtain ⟨m, hm⟩ : ∃ m, (str q).size = m := ⟨_, rfl⟩
            obtain ⟨S, hS⟩ : ∃ S, str q = S := ⟨_, rfl⟩
            have HS := hidden hS
            rw [hS] at hm ⊢
            have Hm : Hid (q.length = m) := by unfold Hid; rw [← hm, ← hS, str_size]
            have hmb : m ≤ 65536 := by rw [← Hm.out]; exact q2
            have hfz : ¬ ((M : Int) > wd) := by omega
            have HCB := hidden (fun w => conv_bytes' w HS.out HQ1.out (by rw [Hm.out]; exact hmb) HSG.out)
            clear hres hS q1 q2 hfit
            go_wp2_with fail
            refine c3.mono ?_
            rintro e w6 ⟨⟨rv, B, rfl, hBB, hr⟩, hb6⟩
            have HB6 := hidden (HB5.out.trans (hb6.mono hsz5))
            have hcv := conv_row hr HQ1.out
            rw [HS.out] at hcv
            have HCV := hidden hcv
            obtain ⟨ra, rc, rfl⟩ := row_slice hr
            clear hb6 hr hcv
            go_wp2_with fail
            go_loopw [16] (fun iv wr => ∃ j : Nat, j ≤ m ∧ iv = .int .i64 (j : Nat) ∧ wr = w6) (fun iv _ => m - (intOf iv).toNat)
            case atStart => exact ⟨0, Nat.zero_le _, rfl, rfl⟩
            case round =>
              obtain ⟨i, hi, rfl, rfl⟩ := hrel
              by_cases him : i < m
              · have hiz : (i : Int) < (m : Int) := by omega
                have hiq : i < q.length := by rw [Hm.out]; exact him
                obtain ⟨D, hD⟩ : ∃ D, q[i]? = some D := ⟨_, List.getElem?_eq_getElem hiq⟩
                have hiS : i < S.size := by rw [hm]; exact him
                have hSD := str_byte HS.out HQ1.out hD hiS
                have d10 := not_ten HQ10.out hD
                have z10 : ¬ (((D : Nat) : Int) = 10) := by omega
                have y10 : (((D : Nat) : Int) == 10) = false := by simp; omega
                clear hD d10
                go_wp2_with fail
                go_roundw
                case rel => exact ⟨i + 1, him, by go_num, trivial⟩
                case measure => simp [intOf] <;> omega
              · have hiz : ¬ ((i : Int) < (m : Int)) := by omega
                obtain ⟨n2, cap2, w7, hc1, hg7, hcall⟩ := HCB.out wr
                have hcv := HCV.out
                have HB7 := hidden (HB6.out.grown hg7 HB6.out.size (by simp))
                have hsz7 : w.heap.size ≤ w7.heap.size := HB7.out.size
                clear hg7
                go_wp2_with fail
                refine hcall.mono ?_
                rintro e w8 ⟨sa, sc, rfl, hb8⟩
                have HB8 := hidden (HB7.out.trans (hb8.mono hsz7))
                clear hb8 hcv hc1
                go_wp2_with fail
                go_ret
                exact ⟨rfl, HB8.out⟩
          · have hfz : ((M : Int) > wd) := by omega
            obtain ⟨S, E, rfl⟩ := layRes_any hres
            clear hres hfit
            go_wp2_with fail
            refine c3.mono ?_
            rintro e w6 ⟨hlb, hb6⟩
            have HB6 := hidden (HB5.out.trans (hb6.mono hsz5))
            obtain ⟨ra, rn, rc, rb, rfl⟩ := layB_any hlb
            clear hlb hb6
            go_wp2_with fail
            go_ret
            exact ⟨rfl, HB6.out⟩
set_option maxRecDepth 100000 in
theorem lifted (os : Os) (started : os.Started) (H : Type) (enc : TypeId × Value → H) :
    ReturnsInHanded {} Try.checked os 6 .any (Rows.layoutFitsSpec.pre6 enc Try.prog Try.f6 Rows.layoutFitsRow.domain false) (Rows.layoutFitsSpec.post enc Try.prog Try.f6 false true false false) := by
  refine returnsInHanded_of_change (C := Try.checked) own started (by kernel_rfl) Try.func6
    (ChangeSpec.witness6 (enc := enc) (C := Try.checked) false ⟨#[], #[.slice none 0 0, .int .i16 0], []⟩ 8 (by kernel_rfl) (by kernel_rfl) (by kernel_rfl) (by kernel_rfl)) ?_
  intro W base args ds gs before hval0 hW _ _
  have hval : ∀ (j : Nat) t v, Try.f6.params[j]? = some t → args[j]? = some v → Value.okWide Try.prog W .any base t v := hval0
  have hW' := hW
  obtain ⟨p, q, hA0, hV, rfl, _, _⟩ := hW
  have hA : DataW.TrodAll enc Try.prog W 0 (fun _ => true) true Try.f6.params.toList args.toList ds p := hA0
  rw [Try.params6] at hA hval
  obtain ⟨v0, vs0, d0, ds0, p0, q0, hargs, rfl, rfl, h0, r0⟩ := trodAll_cons hA
  obtain ⟨v1, vs1, d1, ds1, p1, q1, rfl, rfl, rfl, h1, r1⟩ := trodAll_cons r0
  obtain ⟨rfl, rfl, rfl⟩ := trodAll_nil r1
  obtain rfl : args = #[v0, v1] := by cases args; simp_all
  obtain ⟨rfl, rfl⟩ := trodVars_none hV
  have lt0 : ∀ x ∈ p0, x.block < W.heap.size := by obtain ⟨m, hm⟩ := h0; exact DataW.trod_lt m _ _ _ hm
  obtain ⟨f0, g0⟩ := open_acts (hval 0 22 v0 rfl rfl) h0
  obtain ⟨x1, rfl, rfl, rfl, w1⟩ := open_int Try.underlying29 (hval 1 29 v1 rfl rfl) h1
  have b1 : -32768 ≤ x1 ∧ x1 ≤ 32767 := by simpa [Lit.wf, IntKind.min, IntKind.max, IntKind.signed, IntKind.bits] using w1
  clear hA0 hval0
  simp only [List.append_nil] at hW'
  refine (law v0 f0 x1 W g0 b1).mono fun e W' ⟨he, bel⟩ => ?_
  subst he
  exact ⟨_, rfl, _, _, _, [], _, [], hW', trodAll_mk1 (shut_bool Try.underlying4 _), (trodAll_cons_mk (Below.trod laidOut (by kernel_rfl) (of_decide_eq_true (by kernel_rfl)) h0 bel lt0) (trodAll_cons_mk (shut_int Try.underlying29 w1) trodAll_mk0)), rfl, bel.frame _, fun h => by cases h⟩

theorem said : Rows.LayoutFitsSaid :=
  OpenClaim.holds_of_wide 6 Try.f6 rfl rfl rfl rfl rfl rfl rfl ⟨rfl, rfl, rfl, rfl, rfl⟩ rfl rfl rfl rfl rfl (by kernel_rfl) Try.func6 (by kernel_rfl)
    (of_decide_eq_true (by kernel_rfl)) (by unfold Func.isWrapper; first | (rw [if_pos (by decide +kernel)]; kernel_rfl) | (rw [if_neg (by decide +kernel)]; exact ⟨rfl, rfl⟩))
    (fun os started H enc _ => lifted os started H enc)
#print axioms said
end Go.Proofs.Ytaefnlknendapaa.Fits
