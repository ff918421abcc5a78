/- layout.Lay gives as many bytes as may be, and says of one more that it is too much: of texts, of blanks, of lines that stand far in. -/
import Derived.Test.YtaefnlknendapaaArgs
import Derived.Test.YtaefnlknendapaaRows
import Derived.Test.YtaefnlknendapaaPtG
import Derived.Test.YtaefnlknendapaaLzE
import Derived.Test.YtaefnlknendapaaLwE
import Derived.ProofKit
import Derived.OpenShut
import Derived.ChangeOld
namespace Go.Proofs.Ytaefnlknendapaa.Much
open Go Go.ChangeShapes Go.WideShapes Go.ChangeAt Go.RowKit Go.Shelf Go.Proofs.PlatenLayout Go.Proofs.Ytaefnlknendapaa
set_option linter.unusedVariables false
set_option maxRecDepth 100000

set_option maxHeartbeats 4000000 in
theorem law (n how : Nat) (w : World) (hn : n < 256) (hhow : how < 256) : Calls Try.prog 9 #[.int .u8 n, .int .u8 how] w fun e w' => e = .returned (.bool true) ∧ Below w.heap.size w w' := by
  obtain ⟨i38, hi38, hz38, hy38, hb38⟩ := info_parts info38
  obtain ⟨i5, hi5, hz5, hy5, hb5⟩ := info_parts info5
  have wn : IntKind.i64.wrap (n : Int) = (n : Int) := IntWalk.i64_in _ (by omega)
  obtain ⟨k, hk⟩ : ∃ k, k + n = 65536 := ⟨65536 - n, by omega⟩
  obtain ⟨j, hj⟩ : ∃ j, j + 1 = k := ⟨k - 1, by omega⟩
  have hke : (65536 : Int) - (n : Int) = (k : Int) := by omega
  have hje : (k : Int) - 1 = (j : Int) := by omega
  have wk : IntKind.i64.wrap (k : Int) = (k : Int) := IntWalk.i64_in _ (by omega)
  have wj : IntKind.i64.wrap (j : Int) = (j : Int) := IntWalk.i64_in _ (by omega)
  obtain ⟨r, hr⟩ : ∃ r, how % 3 = r := ⟨_, rfl⟩
  have tm : ((how : Nat) : Int).tmod 3 = (r : Int) := by rw [Int.tmod_eq_emod_of_nonneg (by omega)]; omega
  have hrb : r < 3 := by omega
  have hbyk : i5.bytes * k ≤ 281474976710656 := by rw [hb5]; omega
  have hmlk : k ≤ maxLen := by unfold maxLen; omega
  have hbyn : i5.bytes * n ≤ 281474976710656 := by rw [hb5]; omega
  have hmln : n ≤ maxLen := by unfold maxLen; omega
  have c := group_any w
  clear hr hhow
  go_enter Try.func9, Try.ntmps9
  go_wp2_with fail
  refine c.mono ?_
  rintro e w1 ⟨rfl, hb1⟩
  have HB1 := hidden hb1
  clear hb1
  by_cases r0 : r = 0
  · have HMB := mb_text hk
    have z0 : ((r : Int) == 0) = true := by simp; omega
    have z0' : (r : Int) = 0 := by omega
    subst r0
    go_wp2_with (at_make; refine wpList_make_full _ rfl _ _ _ rfl w1.heap.size 5 i5 (.int .u8 0) 1 Try.underlying33 hi5 hz5 hy5 .i64 .i64 (k : Int) (k : Int) k rfl rfl rfl rfl hbyk hmlk (Nat.le_refl _) ?_)
    intro w2 hrm hgm
    have hcv2 := conv_made hrm
    have HRM2 := hidden (row_grown (World.ownsRow_nil w1 w.heap.size 38 6) hgm (by simp))
    have HBM2 := hidden ((HB1.out).grown hgm (HB1.out).size (by simp))
    obtain ⟨Z, hZ2⟩ : ∃ S, str (zt k) = S := ⟨_, rfl⟩
    have HZ2 := hidden hZ2
    rw [hZ2] at hcv2
    clear hrm hgm hZ2
    have hown := (World.ownsRow_nil w2 w.heap.size 38 6).alloc (.cells #[.int .u8 1, .string Z, .int .i64 0, .int .i64 0, .bool false, .bool false] 38)
    have hbF : Below w.heap.size w (w2) := HBM2.out
    have hBs : w.heap.size ≤ ((w2).alloc (.cells #[.int .u8 1, .string Z, .int .i64 0, .int .i64 0, .bool false, .bool false] 38)).heap.size := by have := hbF.size; simp only [World.size_alloc]; omega
    have cn := cells_new (w2) 38 [.int .u8 1, .string Z, .int .i64 0, .int .i64 0, .bool false, .bool false]
    have HBF := hidden (hbF.alloc hbF.size (.cells #[.int .u8 1, .string Z, .int .i64 0, .int .i64 0, .bool false, .bool false] 38))
    have q3 : 1 ≤ maxLen := by unfold maxLen; omega
    have q4 : 1 * 48 ≤ 140737488355328 := by omega
    have one6 : ∀ u ∈ ([.int .u8 1, .string Z, .int .i64 0, .int .i64 0, .bool false, .bool false] : List Value), u.oneCell' = true := by
      intro u hu
      simp only [List.mem_cons, List.not_mem_nil, or_false] at hu
      rcases hu with rfl | rfl | rfl | rfl | rfl | rfl <;> rfl
    clear hbF
    go_wp2_with (at_builtin; refine wpList_append_own _ rfl _ _ 24 rfl w.heap.size 38 i38 (.agg #[.int .u8 0, .string ByteArray.empty, .int .i64 0, .int .i64 0, .bool false, .bool false]) 6 48 Try.underlying24 hi38 hz38 hy38 hb38 rfl (by decide) _ _ _ rfl hown ⟨w2.heap.size, 0, none⟩ 1 1 [.int .u8 1, .string Z, .int .i64 0, .int .i64 0, .bool false, .bool false] rfl rfl cn one6 q3 q4 hBs ?_)
    intro v7 w7 hr7 hg7 _
    have HBX := hidden (HBF.out.grown hg7 hBs (fun q hq => (hown.lt q hq).1))
    clear hg7 hown cn hBs
    have HR7 : Hid (w7.ownsRow w.heap.size 38 6 v7 1 (rowI [zi k])) := by
      unfold Hid
      rw [rowI_one, show itC (zi k) = [.int .u8 1, .string Z, .int .i64 0, .int .i64 0, .bool false, .bool false] by rw [← HZ2.out]; rfl]
      exact hr7
    obtain ⟨xa, xc, rfl⟩ := row_slice HR7.out
    clear hr7
    obtain ⟨hok2, p, hpk, hl0, hl1, hl2⟩ := HMB
    have hok1 := okL_pre hok2
    have hok0 := okL_pre hok1
    have hI : IsItems w7 (.slice xa 1 xc) [zi k] := isItems_of HR7.out
    have c1 := lay_any hI hok0 131072 (by omega)
    rw [hl0] at c1
    have HB7 := hidden HBX.out
    have hszr : w.heap.size ≤ w7.heap.size := HB7.out.size
    obtain ⟨A, hA⟩ : ∃ A, str p = A := ⟨_, rfl⟩
    have hAz : (A.size : Int) = (k : Int) := by rw [← hA, str_size, hpk]
    obtain ⟨F, hF⟩ : ∃ F, str (p ++ zt n) = F := ⟨_, rfl⟩
    have hFz : (F.size : Int) = 65536 := by rw [← hF, str_size, List.length_append, zt_len]; omega
    have HL1 := hidden hl1
    have HL2 := hidden hl2
    have HO1 := hidden hok1
    have HO2 := hidden hok2
    have HA := hidden hA
    have HFF := hidden hF
    clear hI hok0 hok1 hok2 hl0 hl1 hl2 hpk hA hF HBX
    go_wp2_with fail
    refine c1.mono ?_
    rintro e w8 ⟨hres, hb8⟩
    have e1 : e = .returned (.tuple #[.string (str p), .int .i64 0]) := hres
    rw [HA.out] at e1
    subst e1
    have HR8 := hidden (row_same HR7.out (fun q hq => hb8.block q (HR7.out.lt q hq).2))
    have HB8 := hidden (HB7.out.trans (hb8.mono hszr))
    clear hres hb8 hszr
    go_wp2_with (at_make; refine wpList_make_full _ rfl _ _ _ rfl w8.heap.size 5 i5 (.int .u8 0) 1 Try.underlying33 hi5 hz5 hy5 .i64 .i64 (n : Int) (n : Int) n rfl rfl rfl rfl hbyn hmln (Nat.le_refl _) ?_)
    intro w9 hrm hgm
    have hcv9 := conv_made hrm
    have HRM9 := hidden (row_grown (HR8.out) hgm (by simp))
    have HBM9 := hidden ((HB8.out).grown hgm (HB8.out).size (by simp))
    obtain ⟨ZN, hZN9⟩ : ∃ S, str (zt n) = S := ⟨_, rfl⟩
    have HZN9 := hidden hZN9
    rw [hZN9] at hcv9
    clear hrm hgm hZN9
    have hown := (HRM9.out).alloc (.cells #[.int .u8 1, .string ZN, .int .i64 0, .int .i64 0, .bool false, .bool false] 38)
    have hbF : Below w.heap.size w (w9) := HBM9.out
    have hBs : w.heap.size ≤ ((w9).alloc (.cells #[.int .u8 1, .string ZN, .int .i64 0, .int .i64 0, .bool false, .bool false] 38)).heap.size := by have := hbF.size; simp only [World.size_alloc]; omega
    have cn := cells_new (w9) 38 [.int .u8 1, .string ZN, .int .i64 0, .int .i64 0, .bool false, .bool false]
    have HBF := hidden (hbF.alloc hbF.size (.cells #[.int .u8 1, .string ZN, .int .i64 0, .int .i64 0, .bool false, .bool false] 38))
    have q3 : 1 + 1 ≤ maxLen := by unfold maxLen; omega
    have q4 : 2 * 48 ≤ 140737488355328 := by omega
    have one6 : ∀ u ∈ ([.int .u8 1, .string ZN, .int .i64 0, .int .i64 0, .bool false, .bool false] : List Value), u.oneCell' = true := by
      intro u hu
      simp only [List.mem_cons, List.not_mem_nil, or_false] at hu
      rcases hu with rfl | rfl | rfl | rfl | rfl | rfl <;> rfl
    clear hbF
    go_wp2_with (at_builtin; refine wpList_append_own _ rfl _ _ 24 rfl w.heap.size 38 i38 (.agg #[.int .u8 0, .string ByteArray.empty, .int .i64 0, .int .i64 0, .bool false, .bool false]) 6 48 Try.underlying24 hi38 hz38 hy38 hb38 rfl (by decide) _ _ _ rfl hown ⟨w9.heap.size, 0, none⟩ 1 1 [.int .u8 1, .string ZN, .int .i64 0, .int .i64 0, .bool false, .bool false] rfl rfl cn one6 q3 q4 hBs ?_)
    intro v10 w10 hr7 hg7 _
    have HBX := hidden (HBF.out.grown hg7 hBs (fun q hq => (hown.lt q hq).1))
    clear hg7 hown cn hBs
    have HRX : Hid (w10.ownsRow w.heap.size 38 6 v10 (2) (rowI ([zi k] ++ [zi n]))) := by
      unfold Hid
      rw [rowI_app, rowI_one (zi n), show itC (zi n) = [.int .u8 1, .string ZN, .int .i64 0, .int .i64 0, .bool false, .bool false] by rw [← HZN9.out]; rfl]
      exact hr7
    obtain ⟨ya, yc, rfl⟩ := row_slice HRX.out
    have hI : IsItems w10 (.slice ya (2) yc) ([zi k] ++ [zi n]) := isItems_of HRX.out
    have c2 := lay_any hI HO1.out 131072 (by omega)
    rw [HL1.out] at c2
    have HBY := hidden HBX.out
    have hszr : w.heap.size ≤ w10.heap.size := HBY.out.size
    clear hI hr7 HBX hcv9
    go_wp2_with fail
    refine c2.mono ?_
    rintro e w11 ⟨hres, hb11⟩
    have e1 : e = .returned (.tuple #[.string (str (p ++ zt n)), .int .i64 0]) := hres
    rw [HFF.out] at e1
    subst e1
    have HR11 := hidden (row_same HRX.out (fun q hq => hb11.block q (HRX.out.lt q hq).2))
    have HB11 := hidden (HBY.out.trans (hb11.mono hszr))
    clear hres hb11 hszr q3 q4 one6
    have hown := (HR11.out).alloc (.cells #[.int .u8 1, .string { data := #[120] }, .int .i64 0, .int .i64 0, .bool false, .bool false] 38)
    have hbF : Below w.heap.size w (w11) := HB11.out
    have hBs : w.heap.size ≤ ((w11).alloc (.cells #[.int .u8 1, .string { data := #[120] }, .int .i64 0, .int .i64 0, .bool false, .bool false] 38)).heap.size := by have := hbF.size; simp only [World.size_alloc]; omega
    have cn := cells_new (w11) 38 [.int .u8 1, .string { data := #[120] }, .int .i64 0, .int .i64 0, .bool false, .bool false]
    have HBF := hidden (hbF.alloc hbF.size (.cells #[.int .u8 1, .string { data := #[120] }, .int .i64 0, .int .i64 0, .bool false, .bool false] 38))
    have q3 : 3 ≤ maxLen := by unfold maxLen; omega
    have q4 : (3) * 48 ≤ 140737488355328 := by omega
    have one6 : ∀ u ∈ ([.int .u8 1, .string { data := #[120] }, .int .i64 0, .int .i64 0, .bool false, .bool false] : List Value), u.oneCell' = true := by
      intro u hu
      simp only [List.mem_cons, List.not_mem_nil, or_false] at hu
      rcases hu with rfl | rfl | rfl | rfl | rfl | rfl <;> rfl
    clear hbF
    go_wp2_with (at_builtin; refine wpList_append_own _ rfl _ _ 24 rfl w.heap.size 38 i38 (.agg #[.int .u8 0, .string ByteArray.empty, .int .i64 0, .int .i64 0, .bool false, .bool false]) 6 48 Try.underlying24 hi38 hz38 hy38 hb38 rfl (by decide) _ _ _ rfl hown ⟨w11.heap.size, 0, none⟩ 1 1 [.int .u8 1, .string { data := #[120] }, .int .i64 0, .int .i64 0, .bool false, .bool false] rfl rfl cn one6 q3 q4 hBs ?_)
    intro v12 w12 hr7 hg7 _
    have HBX := hidden (HBF.out.grown hg7 hBs (fun q hq => (hown.lt q hq).1))
    clear hg7 hown cn hBs
    have HRZ : Hid (w12.ownsRow w.heap.size 38 6 v12 (3) (rowI ([zi k] ++ [zi n] ++ [xI]))) := by
      unfold Hid
      rw [rowI_app ([zi k] ++ [zi n]), rowI_one xI, show itC xI = [.int .u8 1, .string { data := #[120] }, .int .i64 0, .int .i64 0, .bool false, .bool false] by rw [← s120]; rfl]
      exact hr7
    obtain ⟨xa2, xc2, rfl⟩ := row_slice HRZ.out
    have hI : IsItems w12 (.slice xa2 (3) xc2) ([zi k] ++ [zi n] ++ [xI]) := isItems_of HRZ.out
    have c3 := lay_any hI HO2.out 131072 (by omega)
    rw [HL2.out] at c3
    have HBZ := hidden HBX.out
    have hszr : w.heap.size ≤ w12.heap.size := HBZ.out.size
    clear hI hr7 HBX
    go_wp2_with fail
    refine c3.mono ?_
    rintro e w13 ⟨hres, hb13⟩
    have e1 : e = .returned (.tuple #[.string ByteArray.empty, .int .i64 4]) := hres
    subst e1
    have HB13 := hidden (HBZ.out.trans (hb13.mono hszr))
    clear hres hb13 hszr
    go_wp2_with fail
    go_ret
    exact ⟨rfl, HB13.out⟩
  by_cases r1 : r = 1
  · have HMB := mb_blanks hk
    have z1' : (r : Int) = 1 := by omega
    subst r1
    have hown := (World.ownsRow_nil w1 w.heap.size 38 6).alloc (.cells #[.int .u8 3, .string { data := #[] }, .int .i64 0, .int .i64 0, .bool false, .bool false, .int .u8 2, .string { data := #[] }, .int .i64 k, .int .i64 0, .bool false, .bool false, .int .u8 4, .string { data := #[] }, .int .i64 0, .int .i64 0, .bool false, .bool false] 38)
    have hbF : Below w.heap.size w (w1) := HB1.out
    have hBs : w.heap.size ≤ ((w1).alloc (.cells #[.int .u8 3, .string { data := #[] }, .int .i64 0, .int .i64 0, .bool false, .bool false, .int .u8 2, .string { data := #[] }, .int .i64 k, .int .i64 0, .bool false, .bool false, .int .u8 4, .string { data := #[] }, .int .i64 0, .int .i64 0, .bool false, .bool false] 38)).heap.size := by have := hbF.size; simp only [World.size_alloc]; omega
    have cn := cells_new (w1) 38 [.int .u8 3, .string { data := #[] }, .int .i64 0, .int .i64 0, .bool false, .bool false, .int .u8 2, .string { data := #[] }, .int .i64 k, .int .i64 0, .bool false, .bool false, .int .u8 4, .string { data := #[] }, .int .i64 0, .int .i64 0, .bool false, .bool false]
    have HBF := hidden (hbF.alloc hbF.size (.cells #[.int .u8 3, .string { data := #[] }, .int .i64 0, .int .i64 0, .bool false, .bool false, .int .u8 2, .string { data := #[] }, .int .i64 k, .int .i64 0, .bool false, .bool false, .int .u8 4, .string { data := #[] }, .int .i64 0, .int .i64 0, .bool false, .bool false] 38))
    have q3 : 3 ≤ maxLen := by unfold maxLen; omega
    have q4 : 3 * 48 ≤ 140737488355328 := by omega
    have one6 : ∀ u ∈ ([.int .u8 3, .string { data := #[] }, .int .i64 0, .int .i64 0, .bool false, .bool false, .int .u8 2, .string { data := #[] }, .int .i64 k, .int .i64 0, .bool false, .bool false, .int .u8 4, .string { data := #[] }, .int .i64 0, .int .i64 0, .bool false, .bool false] : List Value), u.oneCell' = true := by
      intro u hu
      simp only [List.mem_cons, List.not_mem_nil, or_false] at hu
      rcases hu with rfl | rfl | rfl | rfl | rfl | rfl | rfl | rfl | rfl | rfl | rfl | rfl | rfl | rfl | rfl | rfl | rfl | rfl <;> rfl
    clear hbF
    go_wp2_with (at_builtin; refine wpList_append_own _ rfl _ _ 24 rfl w.heap.size 38 i38 (.agg #[.int .u8 0, .string ByteArray.empty, .int .i64 0, .int .i64 0, .bool false, .bool false]) 6 48 Try.underlying24 hi38 hz38 hy38 hb38 rfl (by decide) _ _ _ rfl hown ⟨w1.heap.size, 0, none⟩ 3 3 [.int .u8 3, .string { data := #[] }, .int .i64 0, .int .i64 0, .bool false, .bool false, .int .u8 2, .string { data := #[] }, .int .i64 k, .int .i64 0, .bool false, .bool false, .int .u8 4, .string { data := #[] }, .int .i64 0, .int .i64 0, .bool false, .bool false] rfl rfl cn one6 q3 q4 hBs ?_)
    intro v7 w7 hr7 hg7 _
    have HBX := hidden (HBF.out.grown hg7 hBs (fun q hq => (hown.lt q hq).1))
    clear hg7 hown cn hBs
    have HR7 : Hid (w7.ownsRow w.heap.size 38 6 v7 3 (rowI [bgIt 0 false, brIt (k : Nat), enI])) := hr7
    obtain ⟨xa, xc, rfl⟩ := row_slice HR7.out
    clear hr7
    obtain ⟨hok2, p, hpk, hl0, hl1, hl2⟩ := HMB
    have hok1 := okL_pre hok2
    have hok0 := okL_pre hok1
    have hI : IsItems w7 (.slice xa 3 xc) [bgIt 0 false, brIt (k : Nat), enI] := isItems_of HR7.out
    have c1 := lay_any hI hok0 131072 (by omega)
    rw [hl0] at c1
    have HB7 := hidden HBX.out
    have hszr : w.heap.size ≤ w7.heap.size := HB7.out.size
    obtain ⟨A, hA⟩ : ∃ A, str p = A := ⟨_, rfl⟩
    have hAz : (A.size : Int) = (k : Int) := by rw [← hA, str_size, hpk]
    obtain ⟨F, hF⟩ : ∃ F, str (p ++ zt n) = F := ⟨_, rfl⟩
    have hFz : (F.size : Int) = 65536 := by rw [← hF, str_size, List.length_append, zt_len]; omega
    have HL1 := hidden hl1
    have HL2 := hidden hl2
    have HO1 := hidden hok1
    have HO2 := hidden hok2
    have HA := hidden hA
    have HFF := hidden hF
    clear hI hok0 hok1 hok2 hl0 hl1 hl2 hpk hA hF HBX
    go_wp2_with fail
    refine c1.mono ?_
    rintro e w8 ⟨hres, hb8⟩
    have e1 : e = .returned (.tuple #[.string (str p), .int .i64 0]) := hres
    rw [HA.out] at e1
    subst e1
    have HR8 := hidden (row_same HR7.out (fun q hq => hb8.block q (HR7.out.lt q hq).2))
    have HB8 := hidden (HB7.out.trans (hb8.mono hszr))
    clear hres hb8 hszr
    go_wp2_with (at_make; refine wpList_make_full _ rfl _ _ _ rfl w8.heap.size 5 i5 (.int .u8 0) 1 Try.underlying33 hi5 hz5 hy5 .i64 .i64 (n : Int) (n : Int) n rfl rfl rfl rfl hbyn hmln (Nat.le_refl _) ?_)
    intro w9 hrm hgm
    have hcv9 := conv_made hrm
    have HRM9 := hidden (row_grown (HR8.out) hgm (by simp))
    have HBM9 := hidden ((HB8.out).grown hgm (HB8.out).size (by simp))
    obtain ⟨ZN, hZN9⟩ : ∃ S, str (zt n) = S := ⟨_, rfl⟩
    have HZN9 := hidden hZN9
    rw [hZN9] at hcv9
    clear hrm hgm hZN9
    have hown := (HRM9.out).alloc (.cells #[.int .u8 1, .string ZN, .int .i64 0, .int .i64 0, .bool false, .bool false] 38)
    have hbF : Below w.heap.size w (w9) := HBM9.out
    have hBs : w.heap.size ≤ ((w9).alloc (.cells #[.int .u8 1, .string ZN, .int .i64 0, .int .i64 0, .bool false, .bool false] 38)).heap.size := by have := hbF.size; simp only [World.size_alloc]; omega
    have cn := cells_new (w9) 38 [.int .u8 1, .string ZN, .int .i64 0, .int .i64 0, .bool false, .bool false]
    have HBF := hidden (hbF.alloc hbF.size (.cells #[.int .u8 1, .string ZN, .int .i64 0, .int .i64 0, .bool false, .bool false] 38))
    have q3 : 3 + 1 ≤ maxLen := by unfold maxLen; omega
    have q4 : 4 * 48 ≤ 140737488355328 := by omega
    have one6 : ∀ u ∈ ([.int .u8 1, .string ZN, .int .i64 0, .int .i64 0, .bool false, .bool false] : List Value), u.oneCell' = true := by
      intro u hu
      simp only [List.mem_cons, List.not_mem_nil, or_false] at hu
      rcases hu with rfl | rfl | rfl | rfl | rfl | rfl <;> rfl
    clear hbF
    go_wp2_with (at_builtin; refine wpList_append_own _ rfl _ _ 24 rfl w.heap.size 38 i38 (.agg #[.int .u8 0, .string ByteArray.empty, .int .i64 0, .int .i64 0, .bool false, .bool false]) 6 48 Try.underlying24 hi38 hz38 hy38 hb38 rfl (by decide) _ _ _ rfl hown ⟨w9.heap.size, 0, none⟩ 1 1 [.int .u8 1, .string ZN, .int .i64 0, .int .i64 0, .bool false, .bool false] rfl rfl cn one6 q3 q4 hBs ?_)
    intro v10 w10 hr7 hg7 _
    have HBX := hidden (HBF.out.grown hg7 hBs (fun q hq => (hown.lt q hq).1))
    clear hg7 hown cn hBs
    have HRX : Hid (w10.ownsRow w.heap.size 38 6 v10 (4) (rowI ([bgIt 0 false, brIt (k : Nat), enI] ++ [zi n]))) := by
      unfold Hid
      rw [rowI_app, rowI_one (zi n), show itC (zi n) = [.int .u8 1, .string ZN, .int .i64 0, .int .i64 0, .bool false, .bool false] by rw [← HZN9.out]; rfl]
      exact hr7
    obtain ⟨ya, yc, rfl⟩ := row_slice HRX.out
    have hI : IsItems w10 (.slice ya (4) yc) ([bgIt 0 false, brIt (k : Nat), enI] ++ [zi n]) := isItems_of HRX.out
    have c2 := lay_any hI HO1.out 131072 (by omega)
    rw [HL1.out] at c2
    have HBY := hidden HBX.out
    have hszr : w.heap.size ≤ w10.heap.size := HBY.out.size
    clear hI hr7 HBX hcv9
    go_wp2_with fail
    refine c2.mono ?_
    rintro e w11 ⟨hres, hb11⟩
    have e1 : e = .returned (.tuple #[.string (str (p ++ zt n)), .int .i64 0]) := hres
    rw [HFF.out] at e1
    subst e1
    have HR11 := hidden (row_same HRX.out (fun q hq => hb11.block q (HRX.out.lt q hq).2))
    have HB11 := hidden (HBY.out.trans (hb11.mono hszr))
    clear hres hb11 hszr q3 q4 one6
    have hown := (HR11.out).alloc (.cells #[.int .u8 1, .string { data := #[120] }, .int .i64 0, .int .i64 0, .bool false, .bool false] 38)
    have hbF : Below w.heap.size w (w11) := HB11.out
    have hBs : w.heap.size ≤ ((w11).alloc (.cells #[.int .u8 1, .string { data := #[120] }, .int .i64 0, .int .i64 0, .bool false, .bool false] 38)).heap.size := by have := hbF.size; simp only [World.size_alloc]; omega
    have cn := cells_new (w11) 38 [.int .u8 1, .string { data := #[120] }, .int .i64 0, .int .i64 0, .bool false, .bool false]
    have HBF := hidden (hbF.alloc hbF.size (.cells #[.int .u8 1, .string { data := #[120] }, .int .i64 0, .int .i64 0, .bool false, .bool false] 38))
    have q3 : 5 ≤ maxLen := by unfold maxLen; omega
    have q4 : (5) * 48 ≤ 140737488355328 := by omega
    have one6 : ∀ u ∈ ([.int .u8 1, .string { data := #[120] }, .int .i64 0, .int .i64 0, .bool false, .bool false] : List Value), u.oneCell' = true := by
      intro u hu
      simp only [List.mem_cons, List.not_mem_nil, or_false] at hu
      rcases hu with rfl | rfl | rfl | rfl | rfl | rfl <;> rfl
    clear hbF
    go_wp2_with (at_builtin; refine wpList_append_own _ rfl _ _ 24 rfl w.heap.size 38 i38 (.agg #[.int .u8 0, .string ByteArray.empty, .int .i64 0, .int .i64 0, .bool false, .bool false]) 6 48 Try.underlying24 hi38 hz38 hy38 hb38 rfl (by decide) _ _ _ rfl hown ⟨w11.heap.size, 0, none⟩ 1 1 [.int .u8 1, .string { data := #[120] }, .int .i64 0, .int .i64 0, .bool false, .bool false] rfl rfl cn one6 q3 q4 hBs ?_)
    intro v12 w12 hr7 hg7 _
    have HBX := hidden (HBF.out.grown hg7 hBs (fun q hq => (hown.lt q hq).1))
    clear hg7 hown cn hBs
    have HRZ : Hid (w12.ownsRow w.heap.size 38 6 v12 (5) (rowI ([bgIt 0 false, brIt (k : Nat), enI] ++ [zi n] ++ [xI]))) := by
      unfold Hid
      rw [rowI_app ([bgIt 0 false, brIt (k : Nat), enI] ++ [zi n]), rowI_one xI, show itC xI = [.int .u8 1, .string { data := #[120] }, .int .i64 0, .int .i64 0, .bool false, .bool false] by rw [← s120]; rfl]
      exact hr7
    obtain ⟨xa2, xc2, rfl⟩ := row_slice HRZ.out
    have hI : IsItems w12 (.slice xa2 (5) xc2) ([bgIt 0 false, brIt (k : Nat), enI] ++ [zi n] ++ [xI]) := isItems_of HRZ.out
    have c3 := lay_any hI HO2.out 131072 (by omega)
    rw [HL2.out] at c3
    have HBZ := hidden HBX.out
    have hszr : w.heap.size ≤ w12.heap.size := HBZ.out.size
    clear hI hr7 HBX
    go_wp2_with fail
    refine c3.mono ?_
    rintro e w13 ⟨hres, hb13⟩
    have e1 : e = .returned (.tuple #[.string ByteArray.empty, .int .i64 4]) := hres
    subst e1
    have HB13 := hidden (HBZ.out.trans (hb13.mono hszr))
    clear hres hb13 hszr
    go_wp2_with fail
    go_ret
    exact ⟨rfl, HB13.out⟩
  have HMB := mb_far hk hj
  have z2' : (r : Int) = 2 := by omega
  obtain rfl : r = 2 := by omega
  have hown := (World.ownsRow_nil w1 w.heap.size 38 6).alloc (.cells #[.int .u8 3, .string { data := #[] }, .int .i64 0, .int .i64 j, .bool false, .bool true, .int .u8 1, .string { data := #[] }, .int .i64 0, .int .i64 0, .bool false, .bool false, .int .u8 2, .string { data := #[] }, .int .i64 1048576, .int .i64 0, .bool false, .bool false, .int .u8 4, .string { data := #[] }, .int .i64 0, .int .i64 0, .bool false, .bool false] 38)
  have hbF : Below w.heap.size w (w1) := HB1.out
  have hBs : w.heap.size ≤ ((w1).alloc (.cells #[.int .u8 3, .string { data := #[] }, .int .i64 0, .int .i64 j, .bool false, .bool true, .int .u8 1, .string { data := #[] }, .int .i64 0, .int .i64 0, .bool false, .bool false, .int .u8 2, .string { data := #[] }, .int .i64 1048576, .int .i64 0, .bool false, .bool false, .int .u8 4, .string { data := #[] }, .int .i64 0, .int .i64 0, .bool false, .bool false] 38)).heap.size := by have := hbF.size; simp only [World.size_alloc]; omega
  have cn := cells_new (w1) 38 [.int .u8 3, .string { data := #[] }, .int .i64 0, .int .i64 j, .bool false, .bool true, .int .u8 1, .string { data := #[] }, .int .i64 0, .int .i64 0, .bool false, .bool false, .int .u8 2, .string { data := #[] }, .int .i64 1048576, .int .i64 0, .bool false, .bool false, .int .u8 4, .string { data := #[] }, .int .i64 0, .int .i64 0, .bool false, .bool false]
  have HBF := hidden (hbF.alloc hbF.size (.cells #[.int .u8 3, .string { data := #[] }, .int .i64 0, .int .i64 j, .bool false, .bool true, .int .u8 1, .string { data := #[] }, .int .i64 0, .int .i64 0, .bool false, .bool false, .int .u8 2, .string { data := #[] }, .int .i64 1048576, .int .i64 0, .bool false, .bool false, .int .u8 4, .string { data := #[] }, .int .i64 0, .int .i64 0, .bool false, .bool false] 38))
  have q3 : 4 ≤ maxLen := by unfold maxLen; omega
  have q4 : 4 * 48 ≤ 140737488355328 := by omega
  have one6 : ∀ u ∈ ([.int .u8 3, .string { data := #[] }, .int .i64 0, .int .i64 j, .bool false, .bool true, .int .u8 1, .string { data := #[] }, .int .i64 0, .int .i64 0, .bool false, .bool false, .int .u8 2, .string { data := #[] }, .int .i64 1048576, .int .i64 0, .bool false, .bool false, .int .u8 4, .string { data := #[] }, .int .i64 0, .int .i64 0, .bool false, .bool false] : List Value), u.oneCell' = true := by
    intro u hu
    simp only [List.mem_cons, List.not_mem_nil, or_false] at hu
    rcases hu with rfl | rfl | rfl | rfl | rfl | rfl | rfl | rfl | rfl | rfl | rfl | rfl | rfl | rfl | rfl | rfl | rfl | rfl | rfl | rfl | rfl | rfl | rfl | rfl <;> rfl
  clear hbF
  go_wp2_with (at_builtin; refine wpList_append_own _ rfl _ _ 24 rfl w.heap.size 38 i38 (.agg #[.int .u8 0, .string ByteArray.empty, .int .i64 0, .int .i64 0, .bool false, .bool false]) 6 48 Try.underlying24 hi38 hz38 hy38 hb38 rfl (by decide) _ _ _ rfl hown ⟨w1.heap.size, 0, none⟩ 4 4 [.int .u8 3, .string { data := #[] }, .int .i64 0, .int .i64 j, .bool false, .bool true, .int .u8 1, .string { data := #[] }, .int .i64 0, .int .i64 0, .bool false, .bool false, .int .u8 2, .string { data := #[] }, .int .i64 1048576, .int .i64 0, .bool false, .bool false, .int .u8 4, .string { data := #[] }, .int .i64 0, .int .i64 0, .bool false, .bool false] rfl rfl cn one6 q3 q4 hBs ?_)
  intro v7 w7 hr7 hg7 _
  have HBX := hidden (HBF.out.grown hg7 hBs (fun q hq => (hown.lt q hq).1))
  clear hg7 hown cn hBs
  have HR7 : Hid (w7.ownsRow w.heap.size 38 6 v7 4 (rowI [bgIt (j : Nat) true, ⟨1, [], 0, 0, 0, false, false⟩, brIt 1048576, enI])) := hr7
  obtain ⟨xa, xc, rfl⟩ := row_slice HR7.out
  clear hr7
  obtain ⟨hok2, p, hpk, hl0, hl1, hl2⟩ := HMB
  have hok1 := okL_pre hok2
  have hok0 := okL_pre hok1
  have hI : IsItems w7 (.slice xa 4 xc) [bgIt (j : Nat) true, ⟨1, [], 0, 0, 0, false, false⟩, brIt 1048576, enI] := isItems_of HR7.out
  have c1 := lay_any hI hok0 131072 (by omega)
  rw [hl0] at c1
  have HB7 := hidden HBX.out
  have hszr : w.heap.size ≤ w7.heap.size := HB7.out.size
  obtain ⟨A, hA⟩ : ∃ A, str p = A := ⟨_, rfl⟩
  have hAz : (A.size : Int) = (k : Int) := by rw [← hA, str_size, hpk]
  obtain ⟨F, hF⟩ : ∃ F, str (p ++ zt n) = F := ⟨_, rfl⟩
  have hFz : (F.size : Int) = 65536 := by rw [← hF, str_size, List.length_append, zt_len]; omega
  have HL1 := hidden hl1
  have HL2 := hidden hl2
  have HO1 := hidden hok1
  have HO2 := hidden hok2
  have HA := hidden hA
  have HFF := hidden hF
  clear hI hok0 hok1 hok2 hl0 hl1 hl2 hpk hA hF HBX
  go_wp2_with fail
  refine c1.mono ?_
  rintro e w8 ⟨hres, hb8⟩
  have e1 : e = .returned (.tuple #[.string (str p), .int .i64 0]) := hres
  rw [HA.out] at e1
  subst e1
  have HR8 := hidden (row_same HR7.out (fun q hq => hb8.block q (HR7.out.lt q hq).2))
  have HB8 := hidden (HB7.out.trans (hb8.mono hszr))
  clear hres hb8 hszr
  go_wp2_with (at_make; refine wpList_make_full _ rfl _ _ _ rfl w8.heap.size 5 i5 (.int .u8 0) 1 Try.underlying33 hi5 hz5 hy5 .i64 .i64 (n : Int) (n : Int) n rfl rfl rfl rfl hbyn hmln (Nat.le_refl _) ?_)
  intro w9 hrm hgm
  have hcv9 := conv_made hrm
  have HRM9 := hidden (row_grown (HR8.out) hgm (by simp))
  have HBM9 := hidden ((HB8.out).grown hgm (HB8.out).size (by simp))
  obtain ⟨ZN, hZN9⟩ : ∃ S, str (zt n) = S := ⟨_, rfl⟩
  have HZN9 := hidden hZN9
  rw [hZN9] at hcv9
  clear hrm hgm hZN9
  have hown := (HRM9.out).alloc (.cells #[.int .u8 1, .string ZN, .int .i64 0, .int .i64 0, .bool false, .bool false] 38)
  have hbF : Below w.heap.size w (w9) := HBM9.out
  have hBs : w.heap.size ≤ ((w9).alloc (.cells #[.int .u8 1, .string ZN, .int .i64 0, .int .i64 0, .bool false, .bool false] 38)).heap.size := by have := hbF.size; simp only [World.size_alloc]; omega
  have cn := cells_new (w9) 38 [.int .u8 1, .string ZN, .int .i64 0, .int .i64 0, .bool false, .bool false]
  have HBF := hidden (hbF.alloc hbF.size (.cells #[.int .u8 1, .string ZN, .int .i64 0, .int .i64 0, .bool false, .bool false] 38))
  have q3 : 4 + 1 ≤ maxLen := by unfold maxLen; omega
  have q4 : 5 * 48 ≤ 140737488355328 := by omega
  have one6 : ∀ u ∈ ([.int .u8 1, .string ZN, .int .i64 0, .int .i64 0, .bool false, .bool false] : List Value), u.oneCell' = true := by
    intro u hu
    simp only [List.mem_cons, List.not_mem_nil, or_false] at hu
    rcases hu with rfl | rfl | rfl | rfl | rfl | rfl <;> rfl
  clear hbF
  go_wp2_with (at_builtin; refine wpList_append_own _ rfl _ _ 24 rfl w.heap.size 38 i38 (.agg #[.int .u8 0, .string ByteArray.empty, .int .i64 0, .int .i64 0, .bool false, .bool false]) 6 48 Try.underlying24 hi38 hz38 hy38 hb38 rfl (by decide) _ _ _ rfl hown ⟨w9.heap.size, 0, none⟩ 1 1 [.int .u8 1, .string ZN, .int .i64 0, .int .i64 0, .bool false, .bool false] rfl rfl cn one6 q3 q4 hBs ?_)
  intro v10 w10 hr7 hg7 _
  have HBX := hidden (HBF.out.grown hg7 hBs (fun q hq => (hown.lt q hq).1))
  clear hg7 hown cn hBs
  have HRX : Hid (w10.ownsRow w.heap.size 38 6 v10 (5) (rowI ([bgIt (j : Nat) true, ⟨1, [], 0, 0, 0, false, false⟩, brIt 1048576, enI] ++ [zi n]))) := by
    unfold Hid
    rw [rowI_app, rowI_one (zi n), show itC (zi n) = [.int .u8 1, .string ZN, .int .i64 0, .int .i64 0, .bool false, .bool false] by rw [← HZN9.out]; rfl]
    exact hr7
  obtain ⟨ya, yc, rfl⟩ := row_slice HRX.out
  have hI : IsItems w10 (.slice ya (5) yc) ([bgIt (j : Nat) true, ⟨1, [], 0, 0, 0, false, false⟩, brIt 1048576, enI] ++ [zi n]) := isItems_of HRX.out
  have c2 := lay_any hI HO1.out 131072 (by omega)
  rw [HL1.out] at c2
  have HBY := hidden HBX.out
  have hszr : w.heap.size ≤ w10.heap.size := HBY.out.size
  clear hI hr7 HBX hcv9
  go_wp2_with fail
  refine c2.mono ?_
  rintro e w11 ⟨hres, hb11⟩
  have e1 : e = .returned (.tuple #[.string (str (p ++ zt n)), .int .i64 0]) := hres
  rw [HFF.out] at e1
  subst e1
  have HR11 := hidden (row_same HRX.out (fun q hq => hb11.block q (HRX.out.lt q hq).2))
  have HB11 := hidden (HBY.out.trans (hb11.mono hszr))
  clear hres hb11 hszr q3 q4 one6
  have hown := (HR11.out).alloc (.cells #[.int .u8 1, .string { data := #[120] }, .int .i64 0, .int .i64 0, .bool false, .bool false] 38)
  have hbF : Below w.heap.size w (w11) := HB11.out
  have hBs : w.heap.size ≤ ((w11).alloc (.cells #[.int .u8 1, .string { data := #[120] }, .int .i64 0, .int .i64 0, .bool false, .bool false] 38)).heap.size := by have := hbF.size; simp only [World.size_alloc]; omega
  have cn := cells_new (w11) 38 [.int .u8 1, .string { data := #[120] }, .int .i64 0, .int .i64 0, .bool false, .bool false]
  have HBF := hidden (hbF.alloc hbF.size (.cells #[.int .u8 1, .string { data := #[120] }, .int .i64 0, .int .i64 0, .bool false, .bool false] 38))
  have q3 : 6 ≤ maxLen := by unfold maxLen; omega
  have q4 : (6) * 48 ≤ 140737488355328 := by omega
  have one6 : ∀ u ∈ ([.int .u8 1, .string { data := #[120] }, .int .i64 0, .int .i64 0, .bool false, .bool false] : List Value), u.oneCell' = true := by
    intro u hu
    simp only [List.mem_cons, List.not_mem_nil, or_false] at hu
    rcases hu with rfl | rfl | rfl | rfl | rfl | rfl <;> rfl
  clear hbF
  go_wp2_with (at_builtin; refine wpList_append_own _ rfl _ _ 24 rfl w.heap.size 38 i38 (.agg #[.int .u8 0, .string ByteArray.empty, .int .i64 0, .int .i64 0, .bool false, .bool false]) 6 48 Try.underlying24 hi38 hz38 hy38 hb38 rfl (by decide) _ _ _ rfl hown ⟨w11.heap.size, 0, none⟩ 1 1 [.int .u8 1, .string { data := #[120] }, .int .i64 0, .int .i64 0, .bool false, .bool false] rfl rfl cn one6 q3 q4 hBs ?_)
  intro v12 w12 hr7 hg7 _
  have HBX := hidden (HBF.out.grown hg7 hBs (fun q hq => (hown.lt q hq).1))
  clear hg7 hown cn hBs
  have HRZ : Hid (w12.ownsRow w.heap.size 38 6 v12 (6) (rowI ([bgIt (j : Nat) true, ⟨1, [], 0, 0, 0, false, false⟩, brIt 1048576, enI] ++ [zi n] ++ [xI]))) := by
    unfold Hid
    rw [rowI_app ([bgIt (j : Nat) true, ⟨1, [], 0, 0, 0, false, false⟩, brIt 1048576, enI] ++ [zi n]), rowI_one xI, show itC xI = [.int .u8 1, .string { data := #[120] }, .int .i64 0, .int .i64 0, .bool false, .bool false] by rw [← s120]; rfl]
    exact hr7
  obtain ⟨xa2, xc2, rfl⟩ := row_slice HRZ.out
  have hI : IsItems w12 (.slice xa2 (6) xc2) ([bgIt (j : Nat) true, ⟨1, [], 0, 0, 0, false, false⟩, brIt 1048576, enI] ++ [zi n] ++ [xI]) := isItems_of HRZ.out
  have c3 := lay_any hI HO2.out 131072 (by omega)
  rw [HL2.out] at c3
  have HBZ := hidden HBX.out
  have hszr : w.heap.size ≤ w12.heap.size := HBZ.out.size
  clear hI hr7 HBX
  go_wp2_with fail
  refine c3.mono ?_
  rintro e w13 ⟨hres, hb13⟩
  have e1 : e = .returned (.tuple #[.string ByteArray.empty, .int .i64 4]) := hres
  subst e1
  have HB13 := hidden (HBZ.out.trans (hb13.mono hszr))
  clear hres hb13 hszr
  go_wp2_with fail
  go_ret
  exact ⟨rfl, HB13.out⟩
set_option maxRecDepth 100000 in
theorem lifted (os : Os) (started : os.Started) (H : Type) (enc : TypeId × Value → H) :
    ReturnsInHanded {} Try.checked os 9 .any (Rows.layoutMuchSpec.pre6 enc Try.prog Try.f9 Rows.layoutMuchRow.domain false) (Rows.layoutMuchSpec.post enc Try.prog Try.f9 false true false false) := by
  refine returnsInHanded_of_change (C := Try.checked) own started (by kernel_rfl) Try.func9
    (ChangeSpec.witness6 (enc := enc) (C := Try.checked) false ⟨#[], #[.int .u8 0, .int .u8 0], []⟩ 8 (by kernel_rfl) (by kernel_rfl) (by kernel_rfl) (by kernel_rfl)) ?_
  intro W base args ds gs before hval0 hW _ _
  have hval : ∀ (j : Nat) t v, Try.f9.params[j]? = some t → args[j]? = some v → Value.okWide Try.prog W .any base t v := hval0
  have hW' := hW
  obtain ⟨p, q, hA0, hV, rfl, _, _⟩ := hW
  have hA : DataW.TrodAll enc Try.prog W 0 (fun _ => true) true Try.f9.params.toList args.toList ds p := hA0
  rw [Try.params9] at hA hval
  obtain ⟨v0, vs0, d0, ds0, p0, q0, hargs, rfl, rfl, h0, r0⟩ := trodAll_cons hA
  obtain ⟨v1, vs1, d1, ds1, p1, q1, rfl, rfl, rfl, h1, r1⟩ := trodAll_cons r0
  obtain ⟨rfl, rfl, rfl⟩ := trodAll_nil r1
  obtain rfl : args = #[v0, v1] := by cases args; simp_all
  obtain ⟨rfl, rfl⟩ := trodVars_none hV
  obtain ⟨x0, rfl, rfl, rfl, w0⟩ := open_int Try.underlying5 (hval 0 5 v0 rfl rfl) h0
  have b0 : 0 ≤ x0 ∧ x0 ≤ 255 := by simpa [Lit.wf, IntKind.min, IntKind.max, IntKind.signed, IntKind.bits] using w0
  obtain ⟨c0, rfl⟩ := Int.eq_ofNat_of_zero_le b0.1
  obtain ⟨x1, rfl, rfl, rfl, w1⟩ := open_int Try.underlying5 (hval 1 5 v1 rfl rfl) h1
  have b1 : 0 ≤ x1 ∧ x1 ≤ 255 := by simpa [Lit.wf, IntKind.min, IntKind.max, IntKind.signed, IntKind.bits] using w1
  obtain ⟨c1, rfl⟩ := Int.eq_ofNat_of_zero_le b1.1
  clear hA0 hval0
  simp only [List.append_nil] at hW'
  refine (law c0 c1 W (by omega) (by omega)).mono fun e W' ⟨he, bel⟩ => ?_
  subst he
  exact ⟨_, rfl, _, _, _, [], _, [], hW', trodAll_mk1 (shut_bool Try.underlying4 _), (trodAll_cons_mk (shut_int Try.underlying5 w0) (trodAll_cons_mk (shut_int Try.underlying5 w1) trodAll_mk0)), rfl, bel.frame _, fun h => by cases h⟩

theorem said : Rows.LayoutMuchSaid :=
  OpenClaim.holds_of_wide 9 Try.f9 rfl rfl rfl rfl rfl rfl rfl ⟨rfl, rfl, rfl, rfl, rfl⟩ rfl rfl rfl rfl rfl (by kernel_rfl) Try.func9 (by kernel_rfl)
    (of_decide_eq_true (by kernel_rfl)) (by unfold Func.isWrapper; first | (rw [if_pos (by decide +kernel)]; kernel_rfl) | (rw [if_neg (by decide +kernel)]; exact ⟨rfl, rfl⟩))
    (fun os started H enc _ => lifted os started H enc)
#print axioms said
end Go.Proofs.Ytaefnlknendapaa.Much
