/- a whole group of words that does not fit ends a line at each of its breaks and stands in just as far; one that fits stands on one line. -/
import Derived.Test.YtaefnlknendapaaArgs
import Derived.Test.YtaefnlknendapaaRows
import Derived.Test.YtaefnlknendapaaPtG
import Derived.Test.YtaefnlknendapaaLzE
import Derived.Test.YtaefnlknendapaaLwD
import Derived.ProofKit
import Derived.OpenShut
import Derived.ChangeOld
namespace Go.Proofs.Ytaefnlknendapaa.Whole
open Go Go.ChangeShapes Go.WideShapes Go.ChangeAt Go.RowKit Go.Shelf Go.Proofs.PlatenLayout Go.Proofs.Ytaefnlknendapaa
set_option linter.unusedVariables false
set_option maxRecDepth 100000

set_option maxHeartbeats 1000000 in
theorem long (v : Value) (n : Nat) (f : Nat → Nat) (off wd : Nat) (w : World) (h : IsRow w v n f) (hl : 40 < n) : Calls Try.prog 8 #[v, .int .u8 off, .int .u8 wd] w fun e w' => e = .returned (.bool true) ∧ Below w.heap.size w w' := by
  obtain ⟨hf, hll, a, cap, rfl, _⟩ := h
  have hz : ((n : Int) > 40) := by omega
  have c := group_any w
  go_enter Try.func8, Try.ntmps8
  go_wp2_with fail
  refine c.mono ?_
  rintro e w1 ⟨rfl, hb1⟩
  have c1 := group_any w1
  have HB1 := hidden hb1
  have hsz := hb1.size
  clear hb1
  go_wp2_with fail
  refine c1.mono ?_
  rintro e w2 ⟨rfl, hb2⟩
  have HB2 := hidden (HB1.out.trans (hb2.mono hsz))
  clear hb2
  go_wp2_with fail
  go_ret
  exact ⟨rfl, HB2.out⟩

theorem ini_eq (off : Nat) (g : Nat → List Nat) : (rowI (gl g off 0)).toArray = #[.int .u8 1, .string { data := #[120] }, .int .i64 0, .int .i64 0, .bool false, .bool false, .int .u8 3, .string { data := #[] }, .int .i64 0, .int .i64 off, .bool false, .bool true] := by
  show #[_, Value.string (str [120]), _, _, _, _, _, Value.string (str []), _, _, _, _] = _
  rw [s120]
  rfl
set_option maxHeartbeats 4000000 in
theorem law (v : Value) (n : Nat) (f : Nat → Nat) (off wd : Nat) (w : World) (h : IsRow w v n f) (hoff : off < 256) (hwd : wd < 256) : Calls Try.prog 8 #[v, .int .u8 off, .int .u8 wd] w fun e w' => e = .returned (.bool true) ∧ Below w.heap.size w w' := by
  by_cases hl : 40 < n
  · exact long v n f off wd w h hl
  obtain ⟨i38, hi38, hz38, hy38, hb38⟩ := info_parts info38
  have wz : IntKind.i64.wrap (wd : Int) = (wd : Int) := IntWalk.i64_in _ (by omega)
  have wo : IntKind.i64.wrap (off : Int) = (off : Int) := IntWalk.i64_in _ (by omega)
  obtain ⟨hf, hll, a, cap, rfl, hcells⟩ := h
  have HF := hidden hf
  have HC := hidden hcells
  clear hf hcells
  have hnz : ¬ ((n : Int) > 40) := by omega
  have c := group_any w
  have HG : Hid (∀ i, ∃ k, k ≤ 9 ∧ (fun j => wd9 (f j)) i = letters.take k) := fun i => ⟨1 + f i % 9, by omega, rfl⟩
  obtain ⟨g, hg⟩ : ∃ g, (fun j => wd9 (f j)) = g := ⟨_, rfl⟩
  rw [hg] at HG
  have HGE := hidden hg
  have HINI := hidden (ini_eq off g)
  clear hg
  go_enter Try.func8, Try.ntmps8
  go_wp2_with fail
  refine c.mono ?_
  rintro e w1 ⟨rfl, hb1⟩
  have HR1 : Hid ((w1.alloc (.cells #[.int .u8 1, .string { data := #[120] }, .int .i64 0, .int .i64 0, .bool false, .bool false, .int .u8 3, .string { data := #[] }, .int .i64 0, .int .i64 off, .bool false, .bool true] 38)).ownsRow w.heap.size 38 6 (.slice (some ⟨w1.heap.size, 0, none⟩) 2 2) 2 (rowI (gl g off 0))) := by
    have := row_new w.heap.size w1 (gl g off 0) hb1.size (by rw [gl_len]; decide)
    rw [HINI.out] at this
    exact this
  have HB1 := hidden (hb1.alloc hb1.size (.cells #[.int .u8 1, .string { data := #[120] }, .int .i64 0, .int .i64 0, .bool false, .bool false, .int .u8 3, .string { data := #[] }, .int .i64 0, .int .i64 off, .bool false, .bool true] 38))
  clear hb1
  go_wp2_with fail
  go_loopw [10, 11] (fun pv iv wr => ∃ k : Nat, k ≤ off ∧ iv = .int .i64 (k : Nat) ∧ pv = .string (str (sp k)) ∧ wr = w1.alloc (.cells #[.int .u8 1, .string { data := #[120] }, .int .i64 0, .int .i64 0, .bool false, .bool false, .int .u8 3, .string { data := #[] }, .int .i64 0, .int .i64 off, .bool false, .bool true] 38)) (fun _ iv _ => off - (intOf iv).toNat)
  case atStart => exact ⟨0, Nat.zero_le _, rfl, rfl, rfl⟩
  case round =>
    obtain ⟨k, hk, rfl, rfl, rfl⟩ := hrel
    obtain ⟨P, hP⟩ : ∃ P, str (sp k) = P := ⟨_, rfl⟩
    have hPs : P.size ≤ 256 := by rw [← hP, str_size]; have : (sp k).length = k := List.length_replicate; omega
    have HPE := hidden hP
    rw [hP]
    clear hP
    by_cases hlt : k < off
    · have hlz : (k : Int) < (off : Int) := by omega
      have HN : Hid (str (sp (k + 1)) = P ++ ({ data := #[32] } : ByteArray)) := by unfold Hid; rw [sp_succ, ← str_app', HPE.out, s32]
      have hsz1 : ({ data := #[32] } : ByteArray).size = 1 := rfl
      go_wp2_with fail
      go_roundw
      case rel => exact ⟨k + 1, hlt, by go_num, by rw [HN.out], trivial⟩
      case measure => simp [intOf] <;> omega
    · have hlz : ¬ ((k : Int) < (off : Int)) := by omega
      obtain rfl : k = off := by omega
      go_wp2_with fail
      go_loopw [7, 8, 9, 12] (fun ov av bv iv wr => ∃ j : Nat, j ≤ n ∧ iv = .int .i64 (j : Nat) ∧ wr.ownsRow w.heap.size 38 6 ov (2 + 2 * j) (rowI (gl g k j)) ∧ av = .string (str (120 :: flatV (wv g j))) ∧ bv = .string (str (120 :: far k (wv g j))) ∧ Below w.heap.size w wr) (fun _ _ _ iv _ => n - (intOf iv).toNat)
      case atStart => exact ⟨0, Nat.zero_le _, rfl, HR1.out, by show _ = Value.string (str [120]); rw [s120], by show _ = Value.string (str [120]); rw [s120], HB1.out⟩
      case round =>
        obtain ⟨j, hj, rfl, hr, rfl, rfl, hb⟩ := hrel
        obtain ⟨N, hN⟩ : ∃ N, 2 + 2 * j = N := ⟨_, rfl⟩
        have hNb : N ≤ 100 := by omega
        have HNN := hidden hN
        rw [hN] at hr
        obtain ⟨oa, oc, rfl⟩ := row_slice hr
        have HR := hidden hr
        have HB := hidden hb
        have hfl := flatV_len HG.out j
        have hfr := far_len HG.out k j (by omega)
        obtain ⟨A, hA⟩ : ∃ A, str (120 :: flatV (wv g j)) = A := ⟨_, rfl⟩
        obtain ⟨F, hF⟩ : ∃ F, str (120 :: far k (wv g j)) = F := ⟨_, rfl⟩
        have hAs : A.size ≤ 1000 := by rw [← hA, str_size, List.length_cons]; omega
        have hFs : F.size ≤ 13000 := by rw [← hF, str_size, List.length_cons]; omega
        have hAz : A.size = (120 :: flatV (wv g j)).length := by rw [← hA, str_size]
        have HA := hidden hA
        have HFE := hidden hF
        have HAz := hidden hAz
        rw [hA, hF]
        clear hr hb hN hA hF hfl hfr hAz
        by_cases hjt : j < n
        · have hjz : (j : Int) < (n : Int) := by omega
          obtain ⟨b, bo, ea, hcap, hcs⟩ := HC.out (by omega)
          subst ea
          have ck := (hcs.below HB.out) j hjt
          have hfk := HF.out j
          obtain ⟨M, hM⟩ : ∃ M, f j % 9 = M := ⟨_, rfl⟩
          have hMb : M < 9 := by omega
          have tm : ((f j : Nat) : Int).tmod 9 = (M : Int) := by rw [Int.tmod_eq_emod_of_nonneg (by omega)]; omega
          have wf : IntKind.i64.wrap ((f j : Nat) : Int) = ((f j : Nat) : Int) := IntWalk.i64_in _ (by omega)
          have HT := hidden (lets_str (1 + M) (by omega))
          have HGK : Hid (g j = letters.take (1 + M)) := by unfold Hid; rw [← HGE.out, ← hM]; rfl
          obtain ⟨T, hT⟩ : ∃ T, ({ data := #[97, 98, 99, 100, 101, 102, 103, 104, 105, 106, 107, 108, 109, 110, 111, 112, 113, 114, 115, 116, 117, 118, 119, 120, 121, 122] } : ByteArray).extract 0 (1 + M) = T := ⟨_, rfl⟩
          have HTS : Hid (str (g j) = T) := by unfold Hid; rw [HGK.out, ← HT.out, hT]
          have hTs : T.size ≤ 10 := by rw [← HTS.out, str_size, HGK.out, List.length_take]; omega
          have HTG : Hid (itC (txIt (g j)) = [.int .u8 1, .string T, .int .i64 0, .int .i64 0, .bool false, .bool false]) := by
            unfold Hid
            show [_, Value.string (str (g j)), _, _, _, _] = _
            rw [HTS.out]
            rfl
          have HNA : Hid (str (120 :: flatV (wv g (j + 1))) = A ++ (({ data := #[32] } : ByteArray) ++ T)) := by
            unfold Hid
            show str (120 :: flatV (wv g j ++ [g j])) = _
            rw [flatV_snoc, ← HA.out, ← HTS.out, ← s32, str_app', str_app']
            rfl
          have HNF : Hid (str (120 :: far k (wv g (j + 1))) = F ++ (({ data := #[10] } : ByteArray) ++ P ++ T)) := by
            unfold Hid
            show str (120 :: far k (wv g j ++ [g j])) = _
            rw [far_snoc, ← HFE.out, ← HTS.out, ← s10, ← HPE.out, str_app', str_app', str_app']
            rfl
          have hs32 : ({ data := #[32] } : ByteArray).size = 1 := rfl
          have hs10 : ({ data := #[10] } : ByteArray).size = 1 := rfl
          have hX1 : (({ data := #[32] } : ByteArray) ++ T).size ≤ 20 := by rw [ByteArray.size_append]; omega
          have hX2 : (({ data := #[10] } : ByteArray) ++ P).size ≤ 300 := by rw [ByteArray.size_append]; omega
          have hX3 : (({ data := #[10] } : ByteArray) ++ P ++ T).size ≤ 400 := by rw [ByteArray.size_append]; omega
          have HW2 := hidden (gl_succ g k j)
          clear hM hcs
          have hown := (HR.out).alloc (.cells #[.int .u8 2, .string { data := #[] }, .int .i64 1, .int .i64 0, .bool false, .bool false, .int .u8 1, .string T, .int .i64 0, .int .i64 0, .bool false, .bool false] 38)
          have hbF : Below w.heap.size w (wr) := HB.out
          have hBs : w.heap.size ≤ ((wr).alloc (.cells #[.int .u8 2, .string { data := #[] }, .int .i64 1, .int .i64 0, .bool false, .bool false, .int .u8 1, .string T, .int .i64 0, .int .i64 0, .bool false, .bool false] 38)).heap.size := by have := hbF.size; simp only [World.size_alloc]; omega
          have cn := cells_new (wr) 38 [.int .u8 2, .string { data := #[] }, .int .i64 1, .int .i64 0, .bool false, .bool false, .int .u8 1, .string T, .int .i64 0, .int .i64 0, .bool false, .bool false]
          have HBF := hidden (hbF.alloc hbF.size (.cells #[.int .u8 2, .string { data := #[] }, .int .i64 1, .int .i64 0, .bool false, .bool false, .int .u8 1, .string T, .int .i64 0, .int .i64 0, .bool false, .bool false] 38))
          have q3 : N + 2 ≤ maxLen := by unfold maxLen; omega
          have q4 : (N + 2) * 48 ≤ 140737488355328 := by omega
          have one6 : ∀ u ∈ ([.int .u8 2, .string { data := #[] }, .int .i64 1, .int .i64 0, .bool false, .bool false, .int .u8 1, .string T, .int .i64 0, .int .i64 0, .bool false, .bool false] : List Value), u.oneCell' = true := by
            intro u hu
            simp only [List.mem_cons, List.not_mem_nil, or_false] at hu
            rcases hu with rfl | rfl | rfl | rfl | rfl | rfl | rfl | rfl | rfl | rfl | rfl | rfl <;> rfl
          clear hbF
          go_wp2_with (at_builtin; refine wpList_append_own _ rfl _ _ 24 rfl w.heap.size 38 i38 (.agg #[.int .u8 0, .string ByteArray.empty, .int .i64 0, .int .i64 0, .bool false, .bool false]) 6 48 Try.underlying24 hi38 hz38 hy38 hb38 rfl (by decide) _ _ _ rfl hown ⟨wr.heap.size, 0, none⟩ 2 2 [.int .u8 2, .string { data := #[] }, .int .i64 1, .int .i64 0, .bool false, .bool false, .int .u8 1, .string T, .int .i64 0, .int .i64 0, .bool false, .bool false] rfl rfl cn one6 q3 q4 hBs ?_)
          intro v7 w7 hr7 hg7 _
          have HBX := hidden (HBF.out.grown hg7 hBs (fun q hq => (hown.lt q hq).1))
          clear hg7 hown cn hBs
          have HR7 : Hid (w7.ownsRow w.heap.size 38 6 v7 (2 + 2 * (j + 1)) (rowI (gl g k (j + 1)))) := by
            unfold Hid
            rw [HW2.out, show [bkIt, txIt (g j)] = [bkIt] ++ [txIt (g j)] from rfl, rowI_app, rowI_app, rowI_one, rowI_one, HTG.out, show 2 + 2 * (j + 1) = N + 2 by have := HNN.out; omega]
            exact hr7
          obtain ⟨xa, xc, rfl⟩ := row_slice HR7.out
          clear hr7
          go_wp2_with fail
          go_roundw
          case rel => exact ⟨j + 1, hjt, by go_num, HR7.out, by rw [HNA.out], by rw [HNF.out], HBX.out⟩
          case measure => simp [intOf] <;> omega
        · have hjz : ¬ ((j : Int) < (n : Int)) := by omega
          obtain rfl : j = n := by omega
          have hown := (HR.out).alloc (.cells #[.int .u8 4, .string { data := #[] }, .int .i64 0, .int .i64 0, .bool false, .bool false] 38)
          have hbF : Below w.heap.size w (wr) := HB.out
          have hBs : w.heap.size ≤ ((wr).alloc (.cells #[.int .u8 4, .string { data := #[] }, .int .i64 0, .int .i64 0, .bool false, .bool false] 38)).heap.size := by have := hbF.size; simp only [World.size_alloc]; omega
          have cn := cells_new (wr) 38 [.int .u8 4, .string { data := #[] }, .int .i64 0, .int .i64 0, .bool false, .bool false]
          have HBF := hidden (hbF.alloc hbF.size (.cells #[.int .u8 4, .string { data := #[] }, .int .i64 0, .int .i64 0, .bool false, .bool false] 38))
          have q3 : N + 1 ≤ maxLen := by unfold maxLen; omega
          have q4 : (N + 1) * 48 ≤ 140737488355328 := by omega
          have one6 : ∀ u ∈ ([.int .u8 4, .string { data := #[] }, .int .i64 0, .int .i64 0, .bool false, .bool false] : List Value), u.oneCell' = true := by
            intro u hu
            simp only [List.mem_cons, List.not_mem_nil, or_false] at hu
            rcases hu with rfl | rfl | rfl | rfl | rfl | rfl <;> rfl
          clear hbF
          go_wp2_with (at_builtin; refine wpList_append_own _ rfl _ _ 24 rfl w.heap.size 38 i38 (.agg #[.int .u8 0, .string ByteArray.empty, .int .i64 0, .int .i64 0, .bool false, .bool false]) 6 48 Try.underlying24 hi38 hz38 hy38 hb38 rfl (by decide) _ _ _ rfl hown ⟨wr.heap.size, 0, none⟩ 1 1 [.int .u8 4, .string { data := #[] }, .int .i64 0, .int .i64 0, .bool false, .bool false] rfl rfl cn one6 q3 q4 hBs ?_)
          intro v7 w7 hr7 hg7 _
          have HBX := hidden (HBF.out.grown hg7 hBs (fun q hq => (hown.lt q hq).1))
          clear hg7 hown cn hBs
          have HR7 : Hid (w7.ownsRow w.heap.size 38 6 v7 (N + 1) (rowI (gl g k j ++ [enIt]))) := by
            unfold Hid
            rw [rowI_app, rowI_one]
            exact hr7
          have HB7 := hidden HBX.out
          obtain ⟨xa, xc, rfl⟩ := row_slice HR7.out
          have hgn : (gl g k j ++ [enIt]).length = N + 1 := by rw [List.length_append, gl_len]; have := HNN.out; simp; omega
          have ok : OkL (gl g k j ++ [enIt]) := ⟨by omega, gl_ok HG.out (by omega) j⟩
          have hI : IsItems w7 (.slice xa (N + 1) xc) (gl g k j ++ [enIt]) := isItems_of (by rw [hgn]; exact HR7.out)
          have c1 := lay_any hI ok (wd : Int) (by omega)
          have hgl := gl_lay HG.out (show k < 256 by omega) j (by omega) (wd : Int)
          rw [hgl] at c1
          have hszr : w.heap.size ≤ w7.heap.size := HB7.out.size
          clear hI ok hgl hgn hr7 HBX
          go_wp2_with fail
          refine c1.mono ?_
          rintro e w3 ⟨hres, hb3⟩
          have HB3 := hidden (HB7.out.trans (hb3.mono hszr))
          clear hb3 hszr
          by_cases hfit : (((120 :: flatV (wv g j)).length : Nat) : Int) ≤ (wd : Int)
          · have e1 : e = .returned (.tuple #[.string A, .int .i64 0]) := by
              rw [← HA.out]
              have := hres
              rw [if_pos (Or.inl hfit)] at this
              exact this
            subst e1
            have hfz : (A.size : Int) ≤ (wd : Int) := by rw [HAz.out]; exact hfit
            clear hres hfit
            go_wp2_with fail
            go_ret
            exact ⟨rfl, HB3.out⟩
          have hfz : ¬ ((A.size : Int) ≤ (wd : Int)) := by rw [HAz.out]; exact hfit
          by_cases hj0 : j = 0
          · have e1 : e = .returned (.tuple #[.string A, .int .i64 0]) := by
              rw [← HA.out]
              have := hres
              rw [if_pos (Or.inr hj0)] at this
              exact this
            subst e1
            have hjz0 : (j : Int) = 0 := by omega
            clear hres hfit hj0
            go_wp2_with fail
            go_ret
            exact ⟨rfl, HB3.out⟩
          · have e1 : e = .returned (.tuple #[.string F, .int .i64 0]) := by
              rw [← HFE.out]
              have := hres
              rw [if_neg (fun h => h.elim hfit hj0)] at this
              exact this
            subst e1
            have hjz0 : ¬ ((j : Int) = 0) := by omega
            have hjz1 : ((j : Int) == 0) = false := by simp; omega
            clear hres hfit hj0
            go_wp2_with fail
            go_ret
            exact ⟨rfl, HB3.out⟩
set_option maxRecDepth 100000 in
theorem lifted (os : Os) (started : os.Started) (H : Type) (enc : TypeId × Value → H) :
    ReturnsInHanded {} Try.checked os 8 .any (Rows.layoutWholeSpec.pre6 enc Try.prog Try.f8 Rows.layoutWholeRow.domain false) (Rows.layoutWholeSpec.post enc Try.prog Try.f8 false true false false) := by
  refine returnsInHanded_of_change (C := Try.checked) own started (by kernel_rfl) Try.func8
    (ChangeSpec.witness6 (enc := enc) (C := Try.checked) false ⟨#[], #[.slice none 0 0, .int .u8 0, .int .u8 0], []⟩ 8 (by kernel_rfl) (by kernel_rfl) (by kernel_rfl) (by kernel_rfl)) ?_
  intro W base args ds gs before hval0 hW _ _
  have hval : ∀ (j : Nat) t v, Try.f8.params[j]? = some t → args[j]? = some v → Value.okWide Try.prog W .any base t v := hval0
  have hW' := hW
  obtain ⟨p, q, hA0, hV, rfl, _, _⟩ := hW
  have hA : DataW.TrodAll enc Try.prog W 0 (fun _ => true) true Try.f8.params.toList args.toList ds p := hA0
  rw [Try.params8] at hA hval
  obtain ⟨v0, vs0, d0, ds0, p0, q0, hargs, rfl, rfl, h0, r0⟩ := trodAll_cons hA
  obtain ⟨v1, vs1, d1, ds1, p1, q1, rfl, rfl, rfl, h1, r1⟩ := trodAll_cons r0
  obtain ⟨v2, vs2, d2, ds2, p2, q2, rfl, rfl, rfl, h2, r2⟩ := trodAll_cons r1
  obtain ⟨rfl, rfl, rfl⟩ := trodAll_nil r2
  obtain rfl : args = #[v0, v1, v2] := by cases args; simp_all
  obtain ⟨rfl, rfl⟩ := trodVars_none hV
  have lt0 : ∀ x ∈ p0, x.block < W.heap.size := by obtain ⟨m, hm⟩ := h0; exact DataW.trod_lt m _ _ _ hm
  obtain ⟨n0, f0, g0⟩ := open_bytes (hval 0 33 v0 rfl rfl) h0
  obtain ⟨x1, rfl, rfl, rfl, w1⟩ := open_int Try.underlying5 (hval 1 5 v1 rfl rfl) h1
  have b1 : 0 ≤ x1 ∧ x1 ≤ 255 := by simpa [Lit.wf, IntKind.min, IntKind.max, IntKind.signed, IntKind.bits] using w1
  obtain ⟨c1, rfl⟩ := Int.eq_ofNat_of_zero_le b1.1
  obtain ⟨x2, rfl, rfl, rfl, w2⟩ := open_int Try.underlying5 (hval 2 5 v2 rfl rfl) h2
  have b2 : 0 ≤ x2 ∧ x2 ≤ 255 := by simpa [Lit.wf, IntKind.min, IntKind.max, IntKind.signed, IntKind.bits] using w2
  obtain ⟨c2, rfl⟩ := Int.eq_ofNat_of_zero_le b2.1
  clear hA0 hval0
  simp only [List.append_nil] at hW'
  refine (law v0 n0 f0 c1 c2 W g0 (by omega) (by omega)).mono fun e W' ⟨he, bel⟩ => ?_
  subst he
  exact ⟨_, rfl, _, _, _, [], _, [], hW', trodAll_mk1 (shut_bool Try.underlying4 _), (trodAll_cons_mk (Below.trod laidOut (by kernel_rfl) (of_decide_eq_true (by kernel_rfl)) h0 bel lt0) (trodAll_cons_mk (shut_int Try.underlying5 w1) (trodAll_cons_mk (shut_int Try.underlying5 w2) trodAll_mk0))), rfl, bel.frame _, fun h => by cases h⟩

theorem said : Rows.LayoutWholeSaid :=
  OpenClaim.holds_of_wide 8 Try.f8 rfl rfl rfl rfl rfl rfl rfl ⟨rfl, rfl, rfl, rfl, rfl⟩ rfl rfl rfl rfl rfl (by kernel_rfl) Try.func8 (by kernel_rfl)
    (of_decide_eq_true (by kernel_rfl)) (by unfold Func.isWrapper; first | (rw [if_pos (by decide +kernel)]; kernel_rfl) | (rw [if_neg (by decide +kernel)]; exact ⟨rfl, rfl⟩))
    (fun os started H enc _ => lifted os started H enc)
#print axioms said
end Go.Proofs.Ytaefnlknendapaa.Whole
