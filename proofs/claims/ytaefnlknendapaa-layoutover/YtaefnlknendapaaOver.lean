/- of words with breaks between, each line of what layout.Lay gives that is longer than the width has one word. -/
import Derived.Test.YtaefnlknendapaaArgs
import Derived.Test.YtaefnlknendapaaRows
import Derived.Test.YtaefnlknendapaaPtG
import Derived.Test.YtaefnlknendapaaLzE
import Derived.Test.YtaefnlknendapaaLwC
import Derived.ProofKit
import Derived.OpenShut
import Derived.ChangeOld
namespace Go.Proofs.Ytaefnlknendapaa.Over
open Go Go.ChangeShapes Go.WideShapes Go.ChangeAt Go.RowKit Go.Shelf Go.Proofs.PlatenLayout Go.Proofs.Ytaefnlknendapaa
set_option linter.unusedVariables false
set_option maxRecDepth 100000

set_option maxHeartbeats 1000000 in
theorem long (v : Value) (n : Nat) (f : Nat → Nat) (wd : Nat) (w : World) (h : IsRow w v n f) (hl : 60 < n) : Calls Try.prog 7 #[v, .int .u8 wd] w fun e w' => e = .returned (.bool true) ∧ Below w.heap.size w w' := by
  obtain ⟨hf, hll, a, cap, rfl, _⟩ := h
  have hz : ((n : Int) > 60) := by omega
  have c := group_any w
  go_enter Try.func7, Try.ntmps7
  go_wp2_with fail
  refine c.mono ?_
  rintro e w1 ⟨rfl, hb1⟩
  have c1 := group_any w1
  have HB1 := hidden hb1
  have hsz := hb1.size
  clear hb1
  go_wp2_with fail
  refine c1.mono ?_
  rintro e w2 ⟨rfl, hb2⟩
  have HB2 := hidden (HB1.out.trans (hb2.mono hsz))
  clear hb2
  go_wp2_with fail
  go_ret
  exact ⟨rfl, HB2.out⟩

set_option maxHeartbeats 4000000 in
theorem law (v : Value) (n : Nat) (f : Nat → Nat) (wd : Nat) (w : World) (h : IsRow w v n f) (hwd : wd < 256) : Calls Try.prog 7 #[v, .int .u8 wd] w fun e w' => e = .returned (.bool true) ∧ Below w.heap.size w w' := by
  by_cases hl : 60 < n
  · exact long v n f wd w h hl
  obtain ⟨i38, hi38, hz38, hy38, hb38⟩ := info_parts info38
  have wz : IntKind.i64.wrap (wd : Int) = (wd : Int) := IntWalk.i64_in _ (by omega)
  obtain ⟨hf, hll, a, cap, rfl, hcells⟩ := h
  have HF := hidden hf
  have HC := hidden hcells
  clear hf hcells
  have hnz : ¬ ((n : Int) > 60) := by omega
  have c := group_any w
  have HG : Hid (∀ i, ∃ k, 1 ≤ k ∧ k ≤ 20 ∧ (fun j => wd20 (f j)) i = letters.take k) := fun i => ⟨1 + f i % 20, by omega, by omega, rfl⟩
  obtain ⟨g, hg⟩ : ∃ g, (fun j => wd20 (f j)) = g := ⟨_, rfl⟩
  rw [hg] at HG
  have HGE := hidden hg
  clear hg
  go_enter Try.func7, Try.ntmps7
  go_wp2_with fail
  refine c.mono ?_
  rintro e w1 ⟨rfl, hb1⟩
  have HB1 := hidden hb1
  clear hb1
  go_wp2_with fail
  go_loopw [5, 6] (fun ov iv wr => ∃ k : Nat, k ≤ n ∧ iv = .int .i64 (k : Nat) ∧ wr.ownsRow w.heap.size 38 6 ov (wl g k).length (rowI (wl g k)) ∧ Below w.heap.size w wr) (fun _ iv _ => n - (intOf iv).toNat)
  case atStart => exact ⟨0, Nat.zero_le _, rfl, World.ownsRow_nil _ _ _ _, HB1.out⟩
  case round =>
    obtain ⟨k, hk, rfl, hr, hb⟩ := hrel
    have hlw := wl_len g k
    obtain ⟨N, hN⟩ : ∃ N, (wl g k).length = N := ⟨_, rfl⟩
    have HN := hidden hN
    rw [hN] at hr hlw
    obtain ⟨oa, oc, rfl⟩ := row_slice hr
    have HR := hidden hr
    have HB := hidden hb
    clear hr hb hN
    by_cases hlt : k < n
    · have hlz : (k : Int) < (n : Int) := by omega
      obtain ⟨b, off, ea, hcap, hcs⟩ := HC.out (by omega)
      subst ea
      have ck := (hcs.below HB.out) k hlt
      have hfk := HF.out k
      obtain ⟨M, hM⟩ : ∃ M, f k % 20 = M := ⟨_, rfl⟩
      have hMb : M < 20 := by omega
      have tm : ((f k : Nat) : Int).tmod 20 = (M : Int) := by rw [Int.tmod_eq_emod_of_nonneg (by omega)]; omega
      have wf : IntKind.i64.wrap ((f k : Nat) : Int) = ((f k : Nat) : Int) := IntWalk.i64_in _ (by omega)
      have HT := hidden (lets_str (1 + M) (by omega))
      have HGK : Hid (g k = letters.take (1 + M)) := by unfold Hid; rw [← HGE.out, ← hM]; rfl
      obtain ⟨T, hT⟩ : ∃ T, ({ data := #[97, 98, 99, 100, 101, 102, 103, 104, 105, 106, 107, 108, 109, 110, 111, 112, 113, 114, 115, 116, 117, 118, 119, 120, 121, 122] } : ByteArray).extract 0 (1 + M) = T := ⟨_, rfl⟩
      have HTG : Hid (itC (txIt (g k)) = [.int .u8 1, .string T, .int .i64 0, .int .i64 0, .bool false, .bool false]) := by
        unfold Hid
        rw [HGK.out]
        show [_, Value.string (str (letters.take (1 + M))), _, _, _, _] = _
        rw [← HT.out, hT]
        rfl
      clear hM
      have HWL : Hid (wl g (k + 1) = wl g k ++ (if k = 0 then [txIt (g k)] else [bkIt, txIt (g k)])) := rfl
      by_cases hk0 : k = 0
      · have hkz : ¬ ((k : Int) > 0) := by omega
        have HW2 : Hid (wl g (k + 1) = wl g k ++ [txIt (g k)]) := by unfold Hid; rw [HWL.out, if_pos hk0]
        clear hk0
        clear hcs
        have hown := (HR.out).alloc (.cells #[.int .u8 1, .string T, .int .i64 0, .int .i64 0, .bool false, .bool false] 38)
        have hbF : Below w.heap.size w (wr) := HB.out
        have hBs : w.heap.size ≤ ((wr).alloc (.cells #[.int .u8 1, .string T, .int .i64 0, .int .i64 0, .bool false, .bool false] 38)).heap.size := by have := hbF.size; simp only [World.size_alloc]; omega
        have cn := cells_new (wr) 38 [.int .u8 1, .string T, .int .i64 0, .int .i64 0, .bool false, .bool false]
        have HBF := hidden (hbF.alloc hbF.size (.cells #[.int .u8 1, .string T, .int .i64 0, .int .i64 0, .bool false, .bool false] 38))
        have q3 : N + 1 ≤ maxLen := by unfold maxLen; omega
        have q4 : (N + 1) * 48 ≤ 140737488355328 := by omega
        have one6 : ∀ u ∈ ([.int .u8 1, .string T, .int .i64 0, .int .i64 0, .bool false, .bool false] : List Value), u.oneCell' = true := by
          intro u hu
          simp only [List.mem_cons, List.not_mem_nil, or_false] at hu
          rcases hu with rfl | rfl | rfl | rfl | rfl | rfl <;> rfl
        clear hbF
        go_wp2_with (at_builtin; refine wpList_append_own _ rfl _ _ 24 rfl w.heap.size 38 i38 (.agg #[.int .u8 0, .string ByteArray.empty, .int .i64 0, .int .i64 0, .bool false, .bool false]) 6 48 Try.underlying24 hi38 hz38 hy38 hb38 rfl (by decide) _ _ _ rfl hown ⟨wr.heap.size, 0, none⟩ 1 1 [.int .u8 1, .string T, .int .i64 0, .int .i64 0, .bool false, .bool false] rfl rfl cn one6 q3 q4 hBs ?_)
        intro v7 w7 hr7 hg7 _
        have HBX := hidden (HBF.out.grown hg7 hBs (fun q hq => (hown.lt q hq).1))
        clear hg7 hown cn hBs
        have HR7 : Hid (w7.ownsRow w.heap.size 38 6 v7 (wl g (k + 1)).length (rowI (wl g (k + 1)))) := by
          unfold Hid
          rw [HW2.out, rowI_app, rowI_one, HTG.out, List.length_append, HN.out]
          exact hr7
        obtain ⟨xa, xc, rfl⟩ := row_slice HR7.out
        clear hr7
        go_wp2_with fail
        go_roundw
        case rel => exact ⟨k + 1, hlt, by go_num, HR7.out, HBX.out⟩
        case measure => simp [intOf] <;> omega
      · have hkz : ((k : Int) > 0) := by omega
        have HW2 : Hid (wl g (k + 1) = wl g k ++ [bkIt] ++ [txIt (g k)]) := by unfold Hid; rw [HWL.out, if_neg hk0, List.append_assoc]; rfl
        clear hk0
        have hown := (HR.out).alloc (.cells #[.int .u8 2, .string { data := #[] }, .int .i64 1, .int .i64 0, .bool false, .bool false] 38)
        have hbF : Below w.heap.size w (wr) := HB.out
        have hBs : w.heap.size ≤ ((wr).alloc (.cells #[.int .u8 2, .string { data := #[] }, .int .i64 1, .int .i64 0, .bool false, .bool false] 38)).heap.size := by have := hbF.size; simp only [World.size_alloc]; omega
        have cn := cells_new (wr) 38 [.int .u8 2, .string { data := #[] }, .int .i64 1, .int .i64 0, .bool false, .bool false]
        have HBF := hidden (hbF.alloc hbF.size (.cells #[.int .u8 2, .string { data := #[] }, .int .i64 1, .int .i64 0, .bool false, .bool false] 38))
        have q3 : N + 1 ≤ maxLen := by unfold maxLen; omega
        have q4 : (N + 1) * 48 ≤ 140737488355328 := by omega
        have one6 : ∀ u ∈ ([.int .u8 2, .string { data := #[] }, .int .i64 1, .int .i64 0, .bool false, .bool false] : List Value), u.oneCell' = true := by
          intro u hu
          simp only [List.mem_cons, List.not_mem_nil, or_false] at hu
          rcases hu with rfl | rfl | rfl | rfl | rfl | rfl <;> rfl
        clear hbF
        go_wp2_with (at_builtin; refine wpList_append_own _ rfl _ _ 24 rfl w.heap.size 38 i38 (.agg #[.int .u8 0, .string ByteArray.empty, .int .i64 0, .int .i64 0, .bool false, .bool false]) 6 48 Try.underlying24 hi38 hz38 hy38 hb38 rfl (by decide) _ _ _ rfl hown ⟨wr.heap.size, 0, none⟩ 1 1 [.int .u8 2, .string { data := #[] }, .int .i64 1, .int .i64 0, .bool false, .bool false] rfl rfl cn one6 q3 q4 hBs ?_)
        intro v7 w7 hr7 hg7 _
        have HBX := hidden (HBF.out.grown hg7 hBs (fun q hq => (hown.lt q hq).1))
        clear hg7 hown cn hBs
        have HR7 : Hid (w7.ownsRow w.heap.size 38 6 v7 (N + 1) (rowI (wl g k ++ [bkIt]))) := by
          unfold Hid
          rw [rowI_app, rowI_one]
          exact hr7
        have HBY := hidden HBX.out
        have hk7 : w7.cell? ⟨b, off + k, none⟩ = some (.int .u8 (f k)) := (hcs.below HBX.out) k hlt
        obtain ⟨xa, xc, rfl⟩ := row_slice hr7
        clear hr7 hcs one6 q3 q4
        have hown := (HR7.out).alloc (.cells #[.int .u8 1, .string T, .int .i64 0, .int .i64 0, .bool false, .bool false] 38)
        have hbF : Below w.heap.size w (w7) := HBY.out
        have hBs : w.heap.size ≤ ((w7).alloc (.cells #[.int .u8 1, .string T, .int .i64 0, .int .i64 0, .bool false, .bool false] 38)).heap.size := by have := hbF.size; simp only [World.size_alloc]; omega
        have cn := cells_new (w7) 38 [.int .u8 1, .string T, .int .i64 0, .int .i64 0, .bool false, .bool false]
        have HBF := hidden (hbF.alloc hbF.size (.cells #[.int .u8 1, .string T, .int .i64 0, .int .i64 0, .bool false, .bool false] 38))
        have q3 : (N + 1) + 1 ≤ maxLen := by unfold maxLen; omega
        have q4 : ((N + 1) + 1) * 48 ≤ 140737488355328 := by omega
        have one6 : ∀ u ∈ ([.int .u8 1, .string T, .int .i64 0, .int .i64 0, .bool false, .bool false] : List Value), u.oneCell' = true := by
          intro u hu
          simp only [List.mem_cons, List.not_mem_nil, or_false] at hu
          rcases hu with rfl | rfl | rfl | rfl | rfl | rfl <;> rfl
        clear hbF
        go_wp2_with (at_builtin; refine wpList_append_own _ rfl _ _ 24 rfl w.heap.size 38 i38 (.agg #[.int .u8 0, .string ByteArray.empty, .int .i64 0, .int .i64 0, .bool false, .bool false]) 6 48 Try.underlying24 hi38 hz38 hy38 hb38 rfl (by decide) _ _ _ rfl hown ⟨w7.heap.size, 0, none⟩ 1 1 [.int .u8 1, .string T, .int .i64 0, .int .i64 0, .bool false, .bool false] rfl rfl cn one6 q3 q4 hBs ?_)
        intro v8 w8 hr7 hg7 _
        have HBX := hidden (HBF.out.grown hg7 hBs (fun q hq => (hown.lt q hq).1))
        clear hg7 hown cn hBs
        have HR8 : Hid (w8.ownsRow w.heap.size 38 6 v8 (wl g (k + 1)).length (rowI (wl g (k + 1)))) := by
          unfold Hid
          rw [HW2.out, rowI_app, rowI_one, HTG.out, List.length_append, List.length_append, HN.out]
          exact hr7
        obtain ⟨ya, yc, rfl⟩ := row_slice HR8.out
        clear hr7
        go_wp2_with fail
        go_roundw
        case rel => exact ⟨k + 1, hlt, by go_num, HR8.out, HBX.out⟩
        case measure => simp [intOf] <;> omega
    · have hlz : ¬ ((k : Int) < (n : Int)) := by omega
      obtain rfl : k = n := by omega
      have hg27 : ∀ i, ∃ k, k < 27 ∧ g i = letters.take k := fun i => by
        obtain ⟨m, _, h2, h3⟩ := HG.out i
        exact ⟨m, by omega, h3⟩
      have ok : OkL (wl g k) := wl_ok hg27 k (by omega)
      obtain ⟨q, hq, hov⟩ := wl_over HG.out k (by omega) (wd : Int) (by omega)
      obtain ⟨q1, q2⟩ := lay_some ok hq
      have hI : IsItems wr (.slice oa N oc) (wl g k) := isItems_of (by rw [HN.out]; exact HR.out)
      have c1 := lay_any hI ok (wd : Int) (by omega)
      rw [hq] at c1
      have HQ1 := hidden q1
      obtain ⟨m, hm⟩ : ∃ m, (str q).size = m := ⟨_, rfl⟩
      obtain ⟨S, hS⟩ : ∃ S, str q = S := ⟨_, rfl⟩
      have HS := hidden hS
      rw [hS] at hm
      have Hm : Hid (q.length = m) := by unfold Hid; rw [← hm, ← hS, str_size]
      have hmb : m ≤ 65536 := by rw [← Hm.out]; exact q2
      have HOV := hidden hov
      have hszr : w.heap.size ≤ wr.heap.size := HB.out.size
      clear hI ok hq hov q1 q2 hg27
      go_wp2_with fail
      refine c1.mono ?_
      rintro e w3 ⟨hres, hb3⟩
      have e1 : e = .returned (.tuple #[.string (str q), .int .i64 0]) := hres
      rw [HS.out] at e1
      subst e1
      have HB3 := hidden (HB.out.trans (hb3.mono hszr))
      clear hres hb3 hS
      go_wp2_with fail
      go_loopw [9, 10, 11] (fun cv kv iv wr => ∃ c k j : Nat, j ≤ m + 1 ∧ c ≤ j ∧ k ≤ j + 1 ∧ cv = .int .i64 (c : Nat) ∧ kv = .int .i64 (k : Nat) ∧ iv = .int .i64 (j : Nat) ∧ Hid (j ≤ m → okL (wd : Int) (q.drop j) c k) ∧ Below w.heap.size w wr) (fun _ _ iv _ => m + 1 - (intOf iv).toNat)
      case atStart => exact ⟨0, 1, 0, Nat.zero_le _, Nat.le_refl _, Nat.le_refl _, rfl, rfl, rfl, fun _ => HOV.out, HB3.out⟩
      case round =>
        obtain ⟨ct, kt, j, hj, hcb, hkb, rfl, rfl, rfl, HO, hb4⟩ := hrel
        have HB4 := hidden hb4
        clear hb4
        by_cases hjm : j < m
        · have hjl : (j : Int) ≤ (m : Int) := by omega
          have hjz : (j : Int) < (m : Int) := by omega
          have hjq : j < q.length := by rw [Hm.out]; exact hjm
          obtain ⟨D, hD⟩ : ∃ D, q[j]? = some D := ⟨_, List.getElem?_eq_getElem hjq⟩
          have hjS : j < S.size := by rw [hm]; exact hjm
          have hSD := str_byte HS.out HQ1.out hD hjS
          have hok := okL_at hD (HO.out (by omega))
          by_cases d10 : D = 10
          · rw [if_pos d10] at hok
            have HO2 := hidden hok.2
            have hno := hok.1
            have z10 : ((D : Nat) : Int) = 10 := by omega
            rw [z10] at hSD
            clear hok d10 z10 hD
            by_cases hc1 : (wd : Int) < (ct : Int)
            · have hk1 : ¬ ((kt : Int) > 1) := by
                intro hk
                exact hno ⟨hc1, by omega⟩
              clear hno
              go_wp2_with fail
              go_roundw
              case rel => exact ⟨0, 1, j + 1, by omega, by omega, by omega, rfl, rfl, by go_num, fun _ => HO2.out, HB4.out⟩
              case measure => simp [intOf] <;> omega
            · clear hno
              have hc2 : ¬ ((ct : Int) > (wd : Int)) := by omega
              go_wp2_with fail
              go_roundw
              case rel => exact ⟨0, 1, j + 1, by omega, by omega, by omega, rfl, rfl, by go_num, fun _ => HO2.out, HB4.out⟩
              case measure => simp [intOf] <;> omega
          · rw [if_neg d10] at hok
            have HO2 := hidden hok
            have z10 : ¬ (((D : Nat) : Int) = 10) := by omega
            have y10 : (((D : Nat) : Int) != 10) = true := by simp; omega
            clear hok d10 hD
            by_cases d32 : D = 32
            · have HO3 : Hid (okL (wd : Int) (q.drop (j + 1)) (ct + 1) (kt + 1)) := by have := HO2.out; rw [if_pos d32] at this; exact this
              have z32 : ((D : Nat) : Int) = 32 := by omega
              rw [z32] at hSD
              clear d32 z32 z10 y10 HO2
              go_wp2_with fail
              go_roundw
              case rel => exact ⟨ct + 1, kt + 1, j + 1, by omega, by omega, by omega, by go_num, by go_num, by go_num, fun _ => HO3.out, HB4.out⟩
              case measure => simp [intOf] <;> omega
            · have HO3 : Hid (okL (wd : Int) (q.drop (j + 1)) (ct + 1) kt) := by have := HO2.out; rw [if_neg d32] at this; exact this
              have z32 : ¬ (((D : Nat) : Int) = 32) := by omega
              clear d32 HO2
              go_wp2_with fail
              go_roundw
              case rel => exact ⟨ct + 1, kt, j + 1, by omega, by omega, by omega, by go_num, rfl, by go_num, fun _ => HO3.out, HB4.out⟩
              case measure => simp [intOf] <;> omega
        · by_cases hje : j = m
          · have hno := okL_end (by rw [Hm.out]; omega) (HO.out (by omega))
            subst hje
            have hjl : (j : Int) ≤ (j : Int) := by omega
            have hjz : ¬ ((j : Int) < (j : Int)) := by omega
            by_cases hc1 : (wd : Int) < (ct : Int)
            · have hk1 : ¬ ((kt : Int) > 1) := by
                intro hk
                exact hno ⟨hc1, by omega⟩
              clear hno
              go_wp2_with fail
              go_roundw
              case rel => exact ⟨0, 1, j + 1, by omega, by omega, by omega, rfl, rfl, by go_num, fun h => absurd h (by omega), HB4.out⟩
              case measure => simp [intOf] <;> omega
            · clear hno
              have hc2 : ¬ ((ct : Int) > (wd : Int)) := by omega
              go_wp2_with fail
              go_roundw
              case rel => exact ⟨0, 1, j + 1, by omega, by omega, by omega, rfl, rfl, by go_num, fun h => absurd h (by omega), HB4.out⟩
              case measure => simp [intOf] <;> omega
          · have hjl : ¬ ((j : Int) ≤ (m : Int)) := by omega
            go_wp2_with fail
            go_ret
            exact ⟨rfl, HB4.out⟩
set_option maxRecDepth 100000 in
theorem lifted (os : Os) (started : os.Started) (H : Type) (enc : TypeId × Value → H) :
    ReturnsInHanded {} Try.checked os 7 .any (Rows.layoutOverSpec.pre6 enc Try.prog Try.f7 Rows.layoutOverRow.domain false) (Rows.layoutOverSpec.post enc Try.prog Try.f7 false true false false) := by
  refine returnsInHanded_of_change (C := Try.checked) own started (by kernel_rfl) Try.func7
    (ChangeSpec.witness6 (enc := enc) (C := Try.checked) false ⟨#[], #[.slice none 0 0, .int .u8 0], []⟩ 8 (by kernel_rfl) (by kernel_rfl) (by kernel_rfl) (by kernel_rfl)) ?_
  intro W base args ds gs before hval0 hW _ _
  have hval : ∀ (j : Nat) t v, Try.f7.params[j]? = some t → args[j]? = some v → Value.okWide Try.prog W .any base t v := hval0
  have hW' := hW
  obtain ⟨p, q, hA0, hV, rfl, _, _⟩ := hW
  have hA : DataW.TrodAll enc Try.prog W 0 (fun _ => true) true Try.f7.params.toList args.toList ds p := hA0
  rw [Try.params7] at hA hval
  obtain ⟨v0, vs0, d0, ds0, p0, q0, hargs, rfl, rfl, h0, r0⟩ := trodAll_cons hA
  obtain ⟨v1, vs1, d1, ds1, p1, q1, rfl, rfl, rfl, h1, r1⟩ := trodAll_cons r0
  obtain ⟨rfl, rfl, rfl⟩ := trodAll_nil r1
  obtain rfl : args = #[v0, v1] := by cases args; simp_all
  obtain ⟨rfl, rfl⟩ := trodVars_none hV
  have lt0 : ∀ x ∈ p0, x.block < W.heap.size := by obtain ⟨m, hm⟩ := h0; exact DataW.trod_lt m _ _ _ hm
  obtain ⟨n0, f0, g0⟩ := open_bytes (hval 0 33 v0 rfl rfl) h0
  obtain ⟨x1, rfl, rfl, rfl, w1⟩ := open_int Try.underlying5 (hval 1 5 v1 rfl rfl) h1
  have b1 : 0 ≤ x1 ∧ x1 ≤ 255 := by simpa [Lit.wf, IntKind.min, IntKind.max, IntKind.signed, IntKind.bits] using w1
  obtain ⟨c1, rfl⟩ := Int.eq_ofNat_of_zero_le b1.1
  clear hA0 hval0
  simp only [List.append_nil] at hW'
  refine (law v0 n0 f0 c1 W g0 (by omega)).mono fun e W' ⟨he, bel⟩ => ?_
  subst he
  exact ⟨_, rfl, _, _, _, [], _, [], hW', trodAll_mk1 (shut_bool Try.underlying4 _), (trodAll_cons_mk (Below.trod laidOut (by kernel_rfl) (of_decide_eq_true (by kernel_rfl)) h0 bel lt0) (trodAll_cons_mk (shut_int Try.underlying5 w1) trodAll_mk0)), rfl, bel.frame _, fun h => by cases h⟩

theorem said : Rows.LayoutOverSaid :=
  OpenClaim.holds_of_wide 7 Try.f7 rfl rfl rfl rfl rfl rfl rfl ⟨rfl, rfl, rfl, rfl, rfl⟩ rfl rfl rfl rfl rfl (by kernel_rfl) Try.func7 (by kernel_rfl)
    (of_decide_eq_true (by kernel_rfl)) (by unfold Func.isWrapper; first | (rw [if_pos (by decide +kernel)]; kernel_rfl) | (rw [if_neg (by decide +kernel)]; exact ⟨rfl, rfl⟩))
    (fun os started H enc _ => lifted os started H enc)
#print axioms said
end Go.Proofs.Ytaefnlknendapaa.Over
