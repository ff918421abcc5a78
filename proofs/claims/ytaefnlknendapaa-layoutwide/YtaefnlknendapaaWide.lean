/- in a width that has room for all there is no line end; in one less it is laid out as the reference does. -/
import Derived.Test.YtaefnlknendapaaArgs
import Derived.Test.YtaefnlknendapaaRows
import Derived.Test.YtaefnlknendapaaPtG
import Derived.Test.YtaefnlknendapaaLzE
import Derived.Test.YtaefnlknendapaaLwJ
import Derived.ProofKit
import Derived.OpenShut
import Derived.ChangeOld
namespace Go.Proofs.Ytaefnlknendapaa.Wide
open Go Go.ChangeShapes Go.WideShapes Go.ChangeAt Go.RowKit Go.Shelf Go.Proofs.PlatenLayout Go.Proofs.Ytaefnlknendapaa
set_option linter.unusedVariables false
set_option maxRecDepth 100000

set_option maxHeartbeats 1000000 in
theorem long (v : Value) (l : List Pt) (w : World) (h : IsParts w v l) (hl : 60 < l.length) : Calls Try.prog 10 #[v] w fun e w' => e = .returned (.bool true) ∧ Below w.heap.size w w' := by
  obtain ⟨hll, a, cap, rfl, _⟩ := h
  obtain ⟨n, hn⟩ : ∃ n, l.length = n := ⟨_, rfl⟩
  rw [hn] at hl hll ⊢
  clear hn
  have hz : ((n : Int) > 60) := by omega
  have c := group_any w
  go_enter Try.func10, Try.ntmps10
  go_wp2_with fail
  refine c.mono ?_
  rintro e w1 ⟨rfl, hb1⟩
  have c1 := group_any w1
  have HB1 := hidden hb1
  have hsz := hb1.size
  clear hb1
  go_wp2_with fail
  refine c1.mono ?_
  rintro e w2 ⟨rfl, hb2⟩
  have HB2 := hidden (HB1.out.trans (hb2.mono hsz))
  clear hb2
  go_wp2_with fail
  go_ret
  exact ⟨rfl, HB2.out⟩

theorem wg_eq : (rowI [wG]).toArray = #[.int .u8 3, .string { data := #[] }, .int .i64 0, .int .i64 0, .bool false, .bool true] := by kernel_rfl
set_option maxHeartbeats 4000000 in
theorem law (v : Value) (l : List Pt) (w : World) (h : IsParts w v l) : Calls Try.prog 10 #[v] w fun e w' => e = .returned (.bool true) ∧ Below w.heap.size w w' := by
  by_cases hl : 60 < l.length
  · exact long v l w h hl
  obtain ⟨i38, hi38, hz38, hy38, hb38⟩ := info_parts info38
  obtain ⟨hll, a, cap, e0, _⟩ := id h
  have HP := hidden h
  clear h
  subst e0
  obtain ⟨n, hn⟩ : ∃ n, l.length = n := ⟨_, rfl⟩
  have hl60 : l.length ≤ 60 := by omega
  rw [hn] at hl hll ⊢
  have hnz : ¬ ((n : Int) > 60) := by omega
  have Hnl := hidden hn
  clear hn
  have c := group_any w
  go_enter Try.func10, Try.ntmps10
  go_wp2_with fail
  refine c.mono ?_
  rintro e w1 ⟨rfl, hb1⟩
  have HB1 := hidden hb1
  have hsz1 := hb1.size
  have ci := items_any (HP.out.below hb1) (by omega)
  rw [Hnl.out] at ci
  have hok := itemsOk HP.out (by omega)
  clear hb1 HP
  go_wp2_with fail
  refine ci.mono ?_
  rintro e w2 ⟨u, rfl, hr2, hb2⟩
  have hB2 := HB1.out.trans (hb2.mono hsz1)
  have HB2 := hidden hB2
  have hsz2 : w.heap.size ≤ w2.heap.size := hB2.size
  obtain ⟨ia, icap, rfl⟩ := row_slice hr2
  have ok := hok
  have hI : IsItems w2 (.slice ia n icap) (l.map itemOf) := isItems_of (by rw [List.length_map, Hnl.out]; exact hr2)
  have HI := hidden hI
  have Hok := hidden ok
  clear hb2 hB2 hr2 HB1
  obtain ⟨L, hL⟩ : ∃ L, l.map itemOf = L := ⟨_, rfl⟩
  have hFI : ∀ x ∈ l.map itemOf, Fine x := fun x hx => by
    obtain ⟨p, _, rfl⟩ := List.mem_map.1 hx
    exact fine_item p
  have hLn : L.length = n := by rw [← hL, List.length_map]; exact Hnl.out
  rw [hL] at HI Hok hFI
  have HFI := hidden hFI
  have HLn := hidden hLn
  clear hI ok hok hL hFI hLn Hnl
  go_wp2_with fail
  go_loopw [4, 5] (fun ov iv wr => ∃ k : Nat, k ≤ n ∧ iv = .int .i64 (k : Nat) ∧ wr.ownsRow w2.heap.size 38 6 ov (op L k).length (rowI (op L k)) ∧ Below w2.heap.size w2 wr) (fun _ iv _ => n - (intOf iv).toNat)
  case atStart => exact ⟨0, Nat.zero_le _, rfl, World.ownsRow_nil _ _ _ _, Below.refl _ _⟩
  case round =>
    obtain ⟨k, hk, rfl, hr, hb⟩ := hrel
    have hfl := op_len L k
    obtain ⟨N, hN⟩ : ∃ N, (op L k).length = N := ⟨_, rfl⟩
    rw [hN] at hr hfl
    obtain ⟨oa, oc, rfl⟩ := row_slice hr
    have HR := hidden hr
    have HB := hidden hb
    have HN := hidden hN
    have hszr : w2.heap.size ≤ wr.heap.size := hb.size
    clear hr hN
    by_cases hlt : k < n
    · have hlz : (k : Int) < (n : Int) := by omega
      have hkl : k < L.length := by rw [HLn.out]; exact hlt
      obtain ⟨b, off, cap', hv, _, q0, q1, q2, q3, q4, q5⟩ := (HI.out.below hb).at' hkl
      obtain ⟨x, hx⟩ : ∃ x, L[k] = x := ⟨_, rfl⟩
      have HX := hidden hx
      rw [hx] at q0 q1 q2 q3 q4 q5
      injection hv with hv1 hv2 hv3
      subst hv1 hv3
      have HS0 := hidden (op_step L k hkl)
      clear hv2 hx hb
      by_cases kk : x.kind = 1 ∨ x.kind = 2
      · have HST : Hid (op L (k + 1) = op L k ++ [x]) := by unfold Hid; rw [HS0.out, HX.out, if_pos kk]
        by_cases k1 : x.kind = 1
        · have z1 : (((x.kind : Nat) : Int) == 1) = true := by simp; omega
          clear kk k1
          have hown := (HR.out).alloc (.cells #[.int .u8 (x.kind : Nat), .string (str x.tx), .int .i64 x.n, .int .i64 x.off, .bool x.col, .bool x.whole] 38)
          have hbF : Below w2.heap.size w2 (wr) := HB.out
          have hBs : w2.heap.size ≤ ((wr).alloc (.cells #[.int .u8 (x.kind : Nat), .string (str x.tx), .int .i64 x.n, .int .i64 x.off, .bool x.col, .bool x.whole] 38)).heap.size := by have := hbF.size; simp only [World.size_alloc]; omega
          have cn := cells_new (wr) 38 [.int .u8 (x.kind : Nat), .string (str x.tx), .int .i64 x.n, .int .i64 x.off, .bool x.col, .bool x.whole]
          have HBF := hidden (hbF.alloc hbF.size (.cells #[.int .u8 (x.kind : Nat), .string (str x.tx), .int .i64 x.n, .int .i64 x.off, .bool x.col, .bool x.whole] 38))
          have q3 : N + 1 ≤ maxLen := by unfold maxLen; omega
          have q4 : (N + 1) * 48 ≤ 140737488355328 := by omega
          have one6 : ∀ u ∈ ([.int .u8 (x.kind : Nat), .string (str x.tx), .int .i64 x.n, .int .i64 x.off, .bool x.col, .bool x.whole] : List Value), u.oneCell' = true := by
            intro u hu
            simp only [List.mem_cons, List.not_mem_nil, or_false] at hu
            rcases hu with rfl | rfl | rfl | rfl | rfl | rfl <;> rfl
          clear hbF
          go_wp2_with (at_builtin; refine wpList_append_own _ rfl _ _ 24 rfl w2.heap.size 38 i38 (.agg #[.int .u8 0, .string ByteArray.empty, .int .i64 0, .int .i64 0, .bool false, .bool false]) 6 48 Try.underlying24 hi38 hz38 hy38 hb38 rfl (by decide) _ _ _ rfl hown ⟨wr.heap.size, 0, none⟩ 1 1 [.int .u8 (x.kind : Nat), .string (str x.tx), .int .i64 x.n, .int .i64 x.off, .bool x.col, .bool x.whole] rfl rfl cn one6 q3 q4 hBs ?_)
          intro v7 w7 hr7 hg7 _
          have HBX := hidden (HBF.out.grown hg7 hBs (fun q hq => (hown.lt q hq).1))
          clear hg7 hown cn hBs
          have HR7 : Hid (w7.ownsRow w2.heap.size 38 6 v7 (op L (k + 1)).length (rowI (op L (k + 1)))) := by
            unfold Hid
            rw [HST.out, rowI_app, rowI_one, List.length_append, HN.out]
            exact hr7
          obtain ⟨xa, xc, rfl⟩ := row_slice hr7
          clear hr7
          go_wp2_with fail
          go_roundw
          case rel => exact ⟨k + 1, hlt, by go_num, HR7.out, HBX.out⟩
          case measure => simp [intOf] <;> omega
        have z1 : (((x.kind : Nat) : Int) == 1) = false := by simp; omega
        have z2 : (((x.kind : Nat) : Int) == 2) = true := by simp; omega
        clear kk k1
        have hown := (HR.out).alloc (.cells #[.int .u8 (x.kind : Nat), .string (str x.tx), .int .i64 x.n, .int .i64 x.off, .bool x.col, .bool x.whole] 38)
        have hbF : Below w2.heap.size w2 (wr) := HB.out
        have hBs : w2.heap.size ≤ ((wr).alloc (.cells #[.int .u8 (x.kind : Nat), .string (str x.tx), .int .i64 x.n, .int .i64 x.off, .bool x.col, .bool x.whole] 38)).heap.size := by have := hbF.size; simp only [World.size_alloc]; omega
        have cn := cells_new (wr) 38 [.int .u8 (x.kind : Nat), .string (str x.tx), .int .i64 x.n, .int .i64 x.off, .bool x.col, .bool x.whole]
        have HBF := hidden (hbF.alloc hbF.size (.cells #[.int .u8 (x.kind : Nat), .string (str x.tx), .int .i64 x.n, .int .i64 x.off, .bool x.col, .bool x.whole] 38))
        have q3 : N + 1 ≤ maxLen := by unfold maxLen; omega
        have q4 : (N + 1) * 48 ≤ 140737488355328 := by omega
        have one6 : ∀ u ∈ ([.int .u8 (x.kind : Nat), .string (str x.tx), .int .i64 x.n, .int .i64 x.off, .bool x.col, .bool x.whole] : List Value), u.oneCell' = true := by
          intro u hu
          simp only [List.mem_cons, List.not_mem_nil, or_false] at hu
          rcases hu with rfl | rfl | rfl | rfl | rfl | rfl <;> rfl
        clear hbF
        go_wp2_with (at_builtin; refine wpList_append_own _ rfl _ _ 24 rfl w2.heap.size 38 i38 (.agg #[.int .u8 0, .string ByteArray.empty, .int .i64 0, .int .i64 0, .bool false, .bool false]) 6 48 Try.underlying24 hi38 hz38 hy38 hb38 rfl (by decide) _ _ _ rfl hown ⟨wr.heap.size, 0, none⟩ 1 1 [.int .u8 (x.kind : Nat), .string (str x.tx), .int .i64 x.n, .int .i64 x.off, .bool x.col, .bool x.whole] rfl rfl cn one6 q3 q4 hBs ?_)
        intro v7 w7 hr7 hg7 _
        have HBX := hidden (HBF.out.grown hg7 hBs (fun q hq => (hown.lt q hq).1))
        clear hg7 hown cn hBs
        have HR7 : Hid (w7.ownsRow w2.heap.size 38 6 v7 (op L (k + 1)).length (rowI (op L (k + 1)))) := by
          unfold Hid
          rw [HST.out, rowI_app, rowI_one, List.length_append, HN.out]
          exact hr7
        obtain ⟨xa, xc, rfl⟩ := row_slice hr7
        clear hr7
        go_wp2_with fail
        go_roundw
        case rel => exact ⟨k + 1, hlt, by go_num, HR7.out, HBX.out⟩
        case measure => simp [intOf] <;> omega
      have HST : Hid (op L (k + 1) = op L k) := by unfold Hid; rw [HS0.out, HX.out, if_neg kk, List.append_nil]
      have z1 : (((x.kind : Nat) : Int) == 1) = false := by simp; omega
      have z2 : (((x.kind : Nat) : Int) == 2) = false := by simp; omega
      clear kk
      go_wp2_with fail
      go_roundw
      case rel => exact ⟨k + 1, hlt, by go_num, by rw [HST.out, HN.out]; exact HR.out, HB.out⟩
      case measure => simp [intOf] <;> omega
    · have hlz : ¬ ((k : Int) < (n : Int)) := by omega
      obtain rfl : k = n := by omega
      clear hb
      have hLk := HLn.out
      have hrl : wr.ownsRow w2.heap.size 38 6 (.slice oa N oc) (op L k).length (rowI (op L k)) := by rw [HN.out]; exact HR.out
      have hB2r := HB2.out.trans (HB.out.mono hsz2)
      have hszw : w.heap.size ≤ wr.heap.size := hB2r.size
      have hown0 : (wr.alloc (.cells #[.int .u8 3, .string { data := #[] }, .int .i64 0, .int .i64 0, .bool false, .bool true] 38)).ownsRow w.heap.size 38 6 (.slice (some ⟨wr.heap.size, 0, none⟩) 1 1) 1 (rowI [wG]) := by
        have := row_new w.heap.size wr [wG] hszw (by decide)
        rw [wg_eq] at this
        exact this
      obtain ⟨v7, w7, hrun, hr7, hg7⟩ := run_append_row hown0 (hrl.alloc (.cells #[.int .u8 3, .string { data := #[] }, .int .i64 0, .int .i64 0, .bool false, .bool true] 38)) (by simp only [World.size_alloc]; omega) (by rw [HN.out]; omega)
      rw [← rowI_app, show [wG] ++ op L k = wG :: op L k from rfl] at hr7
      have HB7 := hidden ((hB2r.alloc hszw (.cells #[.int .u8 3, .string { data := #[] }, .int .i64 0, .int .i64 0, .bool false, .bool true] 38)).grown hg7 (by simp only [World.size_alloc]; omega) (fun q hq => (hown0.lt q hq).1))
      obtain ⟨N2, hN2⟩ : ∃ N2, 1 + (op L k).length = N2 := ⟨_, rfl⟩
      have hN2l : (wG :: op L k).length = N2 := by rw [List.length_cons, ← hN2]; omega
      rw [hN2] at hr7
      have hN2b : N2 ≤ 100 := by rw [← hN2, HN.out]; omega
      have hN0 : 0 < N2 := by omega
      obtain ⟨xa, xc, rfl⟩ := row_slice hr7
      have ok : OkL (wG :: op L k) := op_ok Hok.out.2 k (by omega) (by omega)
      have hI : IsItems w7 (.slice xa N2 xc) (wG :: op L k) := isItems_of (by rw [hN2l]; exact hr7)
      have c1 := rsizes_any hI ok
      have hMb := ok.size 0
      rw [List.drop_zero] at hMb
      have hget := szs_get (wG :: op L k) (i := 0) (by simp)
      rw [List.drop_zero] at hget
      obtain ⟨q, hsg, hlay⟩ := op_fits HFI.out (by omega)
      rw [hLk] at hsg hlay
      obtain ⟨M, hM⟩ : ∃ M, size (wG :: op L k) = M := ⟨_, rfl⟩
      rw [hM] at hMb hget hsg hlay
      have HSG := hidden hsg
      have HLAY := hidden hlay
      have HI2 := hidden hI
      have HO := hidden ok
      have HGET := hidden hget
      have HN2 := hidden hN2l
      have hszr7 : w.heap.size ≤ w7.heap.size := HB7.out.size
      clear hLk hrl hB2r hszw hown0 hg7 hr7 hN2 hN2l hI ok hget hsg hlay hM
      go_wp2_with (at_builtin; refine Lib.wpList_append_run _ rfl _ _ 24 24 rfl _ _ rfl rfl _ _ hrun ?_)
      clear hrun
      go_wp2_with fail
      refine c1.mono ?_
      rintro e w4 ⟨z, rfl, hz, hb4⟩
      obtain ⟨zg, zc, rfl, hzc, hz0⟩ := hz.at' HGET.out
      rw [szs_len, HN2.out] at hzc ⊢
      have hi4 := HI2.out.below hb4
      have HI4 := hidden hi4
      have hB4 := HB7.out.trans (hb4.mono hszr7)
      have HB4 := hidden hB4
      have hsz4 : w.heap.size ≤ w4.heap.size := hB4.size
      have c2 := lay_any hi4 HO.out (M : Int) (by omega)
      clear hz hb4 hi4 hB4 hszr7
      by_cases hbig : (M : Int) > 60000
      · go_wp2_with fail
        go_ret
        exact ⟨rfl, HB4.out⟩
      rw [HLAY.out (by omega)] at c2
      have HL1 := hidden (HLAY.out (by omega))
      obtain ⟨q1, q2⟩ := lay_some HO.out HL1.out
      have HQ1 := hidden q1
      clear q1
      go_wp2_with fail
      refine c2.mono ?_
      rintro e w5 ⟨hres, hb5⟩
      have e1 : e = .returned (.tuple #[.string (str q), .int .i64 0]) := hres
      subst e1
      have hi5 := HI4.out.below hb5
      have HI5 := hidden hi5
      have hB5 := HB4.out.trans (hb5.mono hsz4)
      have HB5 := hidden hB5
      have hsz5 : w.heap.size ≤ w5.heap.size := hB5.size
      have wM : IntKind.i64.wrap ((M : Int) - 1) = (M : Int) - 1 := IntWalk.i64_in _ (by omega)
      have c3 := lay_any hi5 HO.out ((M : Int) - 1) (by omega)
      obtain ⟨S, hS⟩ : ∃ S, str q = S := ⟨_, rfl⟩
      have HS := hidden hS
      rw [hS]
      have HCB := hidden (fun w => conv_bytes' w HS.out HQ1.out q2 HSG.out)
      have hq := fun q => lay_some (w := (M : Int) - 1) (q := q) HO.out
      obtain ⟨o, ho⟩ : ∃ o, lay ((M : Int) - 1) (wG :: op L k) s0 = o := ⟨_, rfl⟩
      rw [ho] at c3
      simp only [ho] at hq
      have HOO := hidden ho
      have HQO := hidden hq
      clear hres hb5 hi5 hB5 hS hz0 ho hq
      go_wp2_with fail
      refine c3.mono ?_
      rintro e w6 ⟨hres, hb6⟩
      have hi6 := HI5.out.below hb6
      have hB6 := HB5.out.trans (hb6.mono hsz5)
      have HB6 := hidden hB6
      have hsz6 : w.heap.size ≤ w6.heap.size := hB6.size
      have c4 := rlay_any hi6 HO.out ((M : Int) - 1) (by omega)
      rw [HOO.out] at c4
      clear hb6 hi6 hB6
      cases o with
      | none =>
        have e1 : e = .returned (.tuple #[.string ByteArray.empty, .int .i64 4]) := hres
        subst e1
        clear hres
        go_wp2_with fail
        refine c4.mono ?_
        rintro e w8 ⟨e2, hb8⟩
        have e3 : e = .returned (.tuple #[.slice none 0 0, .bool false]) := e2
        subst e3
        have HB8 := hidden (HB6.out.trans (hb8.mono hsz6))
        clear hb8 e2
        go_wp2_with fail
        go_ret
        exact ⟨rfl, HB8.out⟩
      | some r =>
        obtain ⟨r1, r2⟩ := HQO.out r rfl
        have HR1 := hidden r1
        have e1 : e = .returned (.tuple #[.string (str r), .int .i64 0]) := hres
        subst e1
        obtain ⟨R, hRR⟩ : ∃ R, str r = R := ⟨_, rfl⟩
        have HRR := hidden hRR
        rw [hRR]
        clear hres hRR r1
        go_wp2_with fail
        refine c4.mono ?_
        rintro e w8 ⟨⟨rv, B, rfl, hBB, hr⟩, hb8⟩
        have hB8 := HB6.out.trans (hb8.mono hsz6)
        have HB8 := hidden hB8
        obtain ⟨n2, cap2, w9, hc1, hg9, hcall⟩ := HCB.out w8
        have hB9 := HB8.out.grown hg9 HB8.out.size (by simp)
        have HB9 := hidden hB9
        have hsz9 : w.heap.size ≤ w9.heap.size := hB9.size
        have hr9 := row_grown hr hg9 (by simp)
        have HR9 := hidden hr9
        obtain ⟨ra, rc, rfl⟩ := row_slice hr
        clear hb8 hr hg9 hB8 hB9 hr9
        go_wp2_with fail
        refine hcall.mono ?_
        rintro e w10 ⟨sa, sc, rfl, hb10⟩
        have HB10 := hidden (HB9.out.trans (hb10.mono hsz9))
        have hcv := conv_row (row_same HR9.out (fun q hq => hb10.block q (HR9.out.lt q hq).2)) HR1.out
        rw [HRR.out] at hcv
        clear hb10 hc1
        go_wp2_with fail
        go_ret
        exact ⟨rfl, HB10.out⟩
set_option maxRecDepth 100000 in
theorem lifted (os : Os) (started : os.Started) (H : Type) (enc : TypeId × Value → H) :
    ReturnsInHanded {} Try.checked os 10 .any (Rows.layoutWideSpec.pre6 enc Try.prog Try.f10 Rows.layoutWideRow.domain false) (Rows.layoutWideSpec.post enc Try.prog Try.f10 false true false false) := by
  refine returnsInHanded_of_change (C := Try.checked) own started (by kernel_rfl) Try.func10
    (ChangeSpec.witness6 (enc := enc) (C := Try.checked) false ⟨#[], #[.slice none 0 0], []⟩ 8 (by kernel_rfl) (by kernel_rfl) (by kernel_rfl) (by kernel_rfl)) ?_
  intro W base args ds gs before hval0 hW _ _
  have hval : ∀ (j : Nat) t v, Try.f10.params[j]? = some t → args[j]? = some v → Value.okWide Try.prog W .any base t v := hval0
  have hW' := hW
  obtain ⟨p, q, hA0, hV, rfl, _, _⟩ := hW
  have hA : DataW.TrodAll enc Try.prog W 0 (fun _ => true) true Try.f10.params.toList args.toList ds p := hA0
  rw [Try.params10] at hA hval
  obtain ⟨v0, vs0, d0, ds0, p0, q0, hargs, rfl, rfl, h0, r0⟩ := trodAll_cons hA
  obtain ⟨rfl, rfl, rfl⟩ := trodAll_nil r0
  obtain rfl : args = #[v0] := by cases args; simp_all
  obtain ⟨rfl, rfl⟩ := trodVars_none hV
  have lt0 : ∀ x ∈ p0, x.block < W.heap.size := by obtain ⟨m, hm⟩ := h0; exact DataW.trod_lt m _ _ _ hm
  obtain ⟨f0, g0⟩ := open_acts (hval 0 22 v0 rfl rfl) h0
  clear hA0 hval0
  simp only [List.append_nil] at hW'
  refine (law v0 f0 W g0).mono fun e W' ⟨he, bel⟩ => ?_
  subst he
  exact ⟨_, rfl, _, _, _, [], _, [], hW', trodAll_mk1 (shut_bool Try.underlying4 _), (trodAll_cons_mk (Below.trod laidOut (by kernel_rfl) (of_decide_eq_true (by kernel_rfl)) h0 bel lt0) trodAll_mk0), rfl, bel.frame _, fun h => by cases h⟩

theorem said : Rows.LayoutWideSaid :=
  OpenClaim.holds_of_wide 10 Try.f10 rfl rfl rfl rfl rfl rfl rfl ⟨rfl, rfl, rfl, rfl, rfl⟩ rfl rfl rfl rfl rfl (by kernel_rfl) Try.func10 (by kernel_rfl)
    (of_decide_eq_true (by kernel_rfl)) (by unfold Func.isWrapper; first | (rw [if_pos (by decide +kernel)]; kernel_rfl) | (rw [if_neg (by decide +kernel)]; exact ⟨rfl, rfl⟩))
    (fun os started H enc _ => lifted os started H enc)
#print axioms said
end Go.Proofs.Ytaefnlknendapaa.Wide
