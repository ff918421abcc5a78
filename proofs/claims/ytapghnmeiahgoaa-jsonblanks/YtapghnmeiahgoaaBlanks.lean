/- Blanks around a text change where its tokens are, and nothing else. -/
import Derived.Test.YtapghnmeiahgoaaTm
namespace Go.Proofs.Ytapghnmeiahgoaa.Blanks
open Go.ChangeShapes Go.WideShapes Go.ChangeAt Go.RowKit Go.Proofs.PlatenJson
set_option linter.unusedVariables false
set_option maxRecDepth 100000

def blk (i : Nat) : Nat := [32, 9, 13, 10].getD (i % 4) 0
theorem blk_fin : ∀ k : Fin 4, ((⟨#[32, 9, 13, 10]⟩ : ByteArray)[k.val]'(show k.val < 4 from k.isLt)).toNat = [32, 9, 13, 10].getD k.val 0 := by decide +kernel
theorem blk_get (i : Nat) (h : i % 4 < (⟨#[32, 9, 13, 10]⟩ : ByteArray).size) : ((⟨#[32, 9, 13, 10]⟩ : ByteArray)[i % 4]'h).toNat = blk i := blk_fin ⟨i % 4, Nat.mod_lt _ (by decide)⟩
theorem blk_b (i : Nat) : isB (blk i) = true := by
  have : ∀ k, k < 4 → isB ([32, 9, 13, 10].getD k 0) = true := by decide
  exact this _ (Nat.mod_lt _ (by decide))
theorem blk_lt (i : Nat) : blk i < 256 := by
  have : ∀ k, k < 4 → [32, 9, 13, 10].getD k 0 < 256 := by decide
  exact this _ (Nat.mod_lt _ (by decide))
set_option maxHeartbeats 4000000 in
theorem long (v : Value) (n : Nat) (f : Nat → Nat) (c : Nat) (w : World) (h : IsArg w v n f) (hc : c < 256) (hn : 100 < n) :
    Calls Try.prog 8 #[v, .int .u8 (c : Nat)] w fun e w' => e = .returned (.bool true) ∧ Below w.heap.size w w' := by
  obtain ⟨hf, hm, a, cap, rfl, _⟩ := h
  have hlz : (100 : Int) < (n : Int) := by omega
  clear hn
  go_enter Try.func8, Try.ntmps8
  go_wp2_with fail
  refine (lists_any w).mono ?_
  rintro e w1 ⟨rfl, hb1⟩
  have B1 := hidden hb1
  clear hb1
  go_wp2_with fail
  refine (lists_any w1).mono ?_
  rintro e w2 ⟨rfl, hb2⟩
  have B2 := hidden (B1.out.trans (hb2.mono B1.out.size))
  clear hb2
  go_wp2_with fail
  go_ret
  exact ⟨rfl, B2.out⟩
set_option maxHeartbeats 8000000 in
theorem short (v : Value) (n : Nat) (f : Nat → Nat) (c : Nat) (w : World) (h : IsArg w v n f) (hc : c < 256) (hn : n ≤ 100) :
    Calls Try.prog 8 #[v, .int .u8 (c : Nat)] w fun e w' => e = .returned (.bool true) ∧ Below w.heap.size w w' := by
  obtain ⟨hf, hm, hr⟩ := h
  have HR := hidden hr
  obtain ⟨a, cap, rfl, _⟩ := hr
  have hlz : ¬ ((100 : Int) < (n : Int)) := by omega
  have Hf := hidden hf
  have Hn := hidden hn
  obtain ⟨m, hmc⟩ : ∃ m : Nat, c % 9 = m := ⟨_, rfl⟩
  have hm9 : m < 9 := by omega
  have hcm : ((c : Int) % 9) = (m : Int) := by omega
  have Hcm := hidden hcm
  obtain ⟨i0, hi, hz0, hz1, hz2⟩ := info_parts info5
  clear hn hf hmc
  go_enter Try.func8, Try.ntmps8
  go_wp2_with fail
  refine (lists_any w).mono ?_
  rintro e w1 ⟨rfl, hb1⟩
  have B1 := hidden hb1
  have HR1 := hidden (HR.out.below hb1)
  clear hb1
  go_wp2_with fail
  go_loopw [6, 7] (fun q i wr => ∃ k : Nat, k ≤ m ∧ i = .int .i64 (k : Nat) ∧ wr.ownsRow w1.heap.size 5 1 q k (rowG blk k) ∧ Below w1.heap.size w1 wr) (fun _ i _ => m - (intOf i).toNat)
  case atStart => exact ⟨0, Nat.zero_le _, rfl, World.ownsRow_nil _ _ _ _, Below.refl _ _⟩
  case round =>
    obtain ⟨k, hk, rfl, hown, hnx⟩ := hrel
    by_cases hlt : k < m
    · have hlz2 : (k : Int) < (m : Int) := by omega
      have Hr := hidden (rowG_succ blk k)
      have hix : (0 : Int) ≤ (k : Int) % 4 ∧ (k : Int) % 4 < 4 := by omega
      have hsg : ∀ h, (({ data := #[32, 9, 13, 10] } : ByteArray)[k % 4]'h).toNat = blk k := fun h => blk_get k h
      have Hc3 := hidden (c3_of (show k ≤ 5000 by omega))
      have hsz := hnx.size
      have Hnx := hidden hnx
      clear hnx
      generalize blk k = y at *
      go_wp2_with (at_builtin; refine wpList_append_own _ rfl _ _ 22 rfl w1.heap.size 5 i0 (.int .u8 0) 1 1 Try.underlying22 hi hz0 hz1 hz2 rfl (by decide) _ _ _ rfl (hown.alloc _) ⟨wr.heap.size, 0, none⟩ 1 1 [.int .u8 (y : Nat)] rfl rfl (cell1 _ _ _) (one1 _) Hc3.out.1 Hc3.out.2 (c5_of hsz) ?_)
      intro v' w2 hown' hgrow _
      have Hb2 := hidden (below_append1 hsz hown Hnx.out hgrow)
      have Hw2 := hidden hown'
      clear hown' hgrow hown hix hsg
      go_wp2
      go_roundw
      case rel => exact ⟨k + 1, by omega, by go_num, by rw [Hr.out]; exact Hw2.out, Hb2.out⟩
      case measure => simp [intOf]; omega
    · obtain rfl : k = m := by omega
      have hlz2 : ¬ ((k : Int) < (k : Int)) := by omega
      have HQ := hidden hown
      have Bq := hidden hnx
      have B2 := hidden (B1.out.trans (hnx.mono B1.out.size))
      have HR2 := hidden (HR1.out.below hnx)
      clear hown hnx
      generalize hqv : u6 = qv at *
      clear hqv
      generalize k = m at *
      generalize wr = W2 at *
      go_wp2_with fail
      go_loopw [5, 8] (fun p i wr => ∃ k : Nat, k ≤ n ∧ i = .int .i64 (k : Nat) ∧ wr.ownsRow W2.heap.size 5 1 p k (rowG (fun j => sgn (f j)) k) ∧ Below W2.heap.size W2 wr) (fun _ i _ => n - (intOf i).toNat)
      case atStart => exact ⟨0, Nat.zero_le _, rfl, World.ownsRow_nil _ _ _ _, Below.refl _ _⟩
      case round =>
        obtain ⟨k, hk, rfl, hown, hnx⟩ := hrel
        by_cases hlt : k < n
        · have hlz2 : (k : Int) < (n : Int) := by omega
          obtain ⟨a', cap', hva, hrow⟩ := HR2.out.below hnx
          injection hva with e1 e2 e3
          subst e1 e3
          obtain ⟨b, off, rfl, hcap, hc⟩ := hrow (by omega)
          have g0 := hc k hlt
          have g1 := Hf.out k
          have Hr : Hid (rowG (fun j => sgn (f j)) (k + 1) = rowG (fun j => sgn (f j)) k ++ [.int .u8 (sgn (f k) : Nat)]) := rowG_succ _ _
          have hix : (0 : Int) ≤ ((f k : Nat) : Int) % 36 ∧ ((f k : Nat) : Int) % 36 < 36 := by omega
          have hsg : ∀ h, (({ data := #[123, 125, 91, 93, 44, 58, 34, 34, 92, 117, 101, 45, 43, 46, 48, 49, 50, 51, 52, 53, 54, 55, 56, 57, 116, 114, 117, 101, 102, 97, 108, 115, 110, 32, 9, 10] } : ByteArray)[f k % 36]'h).toNat = sgn (f k) := fun h => sg_get _ h
          have hkb : k ≤ 200 := by have := Hn.out; omega
          have Hc3 := hidden (c3_of (show k ≤ 5000 by omega))
          have hsz := hnx.size
          have Hnx := hidden hnx
          clear hc hrow e2 hnx
          generalize sgn (f k) = y at *
          generalize f k = c at *
          go_wp2_with (at_builtin; refine wpList_append_own _ rfl _ _ 22 rfl W2.heap.size 5 i0 (.int .u8 0) 1 1 Try.underlying22 hi hz0 hz1 hz2 rfl (by decide) _ _ _ rfl (hown.alloc _) ⟨wr.heap.size, 0, none⟩ 1 1 [.int .u8 (y : Nat)] rfl rfl (cell1 _ _ _) (one1 _) Hc3.out.1 Hc3.out.2 (c5_of hsz) ?_)
          intro v' w2 hown' hgrow _
          have Hb2 := hidden (below_append1 hsz hown Hnx.out hgrow)
          have Hw2 := hidden hown'
          clear hown' hgrow hown g0 g1 hix hsg
          go_wp2
          go_roundw
          case rel => exact ⟨k + 1, by omega, by go_num, by rw [Hr.out]; exact Hw2.out, Hb2.out⟩
          case measure => simp [intOf]; omega
        · obtain rfl : k = n := by omega
          have hlz2 : ¬ ((k : Int) < (k : Int)) := by omega
          have Hown := hidden hown
          have Hnx := hidden hnx
          clear hown hnx
          have hq : wr.ownsRow w1.heap.size 5 1 qv (listOf blk m).length (rowL (listOf blk m)) := by
            rw [listOf_len, ← rowG_eq]
            exact row_same HQ.out (fun j hj => Hnx.out.block j (HQ.out.lt j hj).2)
          have hsz : w1.heap.size ≤ wr.heap.size := Nat.le_trans Bq.out.size Hnx.out.size
          have hsP : Src wr u5 (listOf (fun j => sgn (f j)) k) := src_own (by rw [listOf_len]) (by rw [← rowG_eq]; exact Hown.out)
          have hrp := row_of Hown.out
          have Hks : Hid (k ≤ 100) := by have := Hn.out; unfold Hid; omega
          have B3 := hidden (B2.out.trans (Hnx.out.mono B2.out.size))
          have hplt : ∀ j, u5.ownBlock = some j → W2.heap.size ≤ j := fun j hj => (Hown.out.lt j hj).1
          have hqlt : ∀ j, qv.ownBlock = some j → j < W2.heap.size := fun j hj => (HQ.out.lt j hj).2
          have Hplt := hidden hplt
          have Hqlt := hidden hqlt
          clear hplt hqlt
          generalize hg : (fun j => sgn (f j)) = g at *
          have Hg : Hid (∀ j, g j < 256) := fun j => by rw [← hg]; exact sgn_lt _
          clear hg
          have HownP := hidden Hown.out
          have hl1 : (listOf blk m).length = m := listOf_len _ _
          have hl2 : (listOf g k).length = k := listOf_len _ _
          have Hq1 : Hid (∀ j, j < m → isB (fOf (listOf blk m ++ listOf g k) j) = true) := fun j hj => by
            rw [fOf_get _ _ (by rw [List.length_append, hl1]; omega), List.getElem_append_left (by rw [hl1]; omega)]
            simp only [listOf, List.getElem_map, List.getElem_range]
            exact blk_b j
          have Hq2 : Hid (∀ j, j < k → fOf (listOf blk m ++ listOf g k) (j + m) = g j) := fun j hj => by
            rw [fOf_get _ _ (by rw [List.length_append, hl1, hl2]; omega), List.getElem_append_right (by rw [hl1]; omega)]
            simp [listOf]
          have Hq3 : Hid (∀ c ∈ listOf blk m ++ listOf g k, c < 256) := fun c hc => by
            rcases List.mem_append.1 hc with h | h
            · exact listOf_lt blk_lt m c h
            · exact listOf_lt Hg.out k c h
          have nn : Hid ((listOf blk m).length ≤ 100000 ∧ (listOf g k).length ≤ 100000) := by rw [hl1, hl2]; have := Hks.out; exact ⟨by omega, by omega⟩
          have Hl12 := hidden (⟨hl1, hl2⟩ : (listOf blk m).length = m ∧ (listOf g k).length = k)
          clear hl1 hl2
          generalize listOf blk m = LB at *
          generalize listOf g k = LP at *
          go_wp2_with (at_builtin; refine append_src rfl _ _ rfl w1.heap.size qv LB rfl hq _ LP rfl hsP nn.out.1 nn.out.2 hsz ?_)
          intro v' w4 ho4 hg4
          have B4 := hidden (B3.out.trans ((below_append' hsz hq (Below.refl _ _) hg4).mono B1.out.size))
          have hp4 : Row w4 u5 k g := row_of (row_same HownP.out (fun j hj => hg4.block j (HownP.out.lt j hj).2 (fun e => by have h1 := Hplt.out j hj; have h2 := Hqlt.out j e.symm; omega)))
          have hrq := row_ofL (L := LB ++ LP) (by simp) ho4
          have hlen : LB.length + LP.length = m + k := by rw [Hl12.out.1, Hl12.out.2]
          have cr := read_any _ k g w4 Hg.out (by have := Hks.out; omega) hp4
          have Hrq := hidden hrq
          obtain ⟨va, vc, hva, _⟩ := hp4
          subst hva
          obtain ⟨vb, vd, rfl, _⟩ := hrq
          have Hans : Hid (ans (fOf (LB ++ LP)) (m + k) = shR m (ans g k)) := ans_blanks Hq1.out Hq2.out
          have Hlen : Hid ((ans g k).1.length ≤ 1000000) := ans_len g k Hg.out (by have := Hks.out; omega)
          rw [hlen] at Hrq
          clear ho4 hg4 hq hsP hsz
          go_wp2_with fail
          refine cr.mono ?_
          rintro e w5 ⟨tv, rfl, ht, hb5⟩
          have B5 := hidden (B4.out.trans (hb5.mono B4.out.size))
          have HT := hidden ht
          have cq := read_any _ (m + k) _ w5 (fOf_lt Hq3.out) (by have := Hks.out; omega) (Hrq.out.below hb5)
          rw [Hans.out] at cq
          clear cr hb5 ht
          have Hat : Hid ((ans g k).2.1 ≤ k) := ans_at k
          have Htok : Hid (∀ t ∈ (ans g k).1, t.2.1 + t.2.2 ≤ k) := ans_tok Hg.out k
          generalize ans g k = o at *
          obtain ⟨T, x, y⟩ := o
          simp only at Hlen HT Hat Htok
          have hxk : x ≤ 200 := by have := Hat.out; have := Hks.out; omega
          obtain ⟨aa, ac, rfl, hA⟩ := HT.out
          have HA := hidden hA
          obtain ⟨z, hz⟩ : ∃ z, (if y = 0 then 0 else x + m : Nat) = z := ⟨_, rfl⟩
          have cq2 : Calls Try.prog 11 #[.slice vb (m + k) vd] w5 (RdP w5 (T.map (shT m), z, y)) := by rw [← hz]; exact cq
          have Hz := hidden hz
          clear cq hz hA
          rw [show LB.length + LP.length = m + k from hlen]
          go_wp2_with fail
          refine cq2.mono ?_
          rintro e w6 ⟨tv2, rfl, ht2, hb6⟩
          have B6 := hidden (B5.out.trans (hb6.mono B5.out.size))
          have HT1 := hidden (HT.out.below hb6)
          obtain ⟨ba, bc, rfl, hB⟩ := ht2
          simp only [List.length_map] at hB
          have HB := hidden hB
          have hTl : T.length ≤ 1000000 := Hlen.out
          have Hlm : Hid ((T.map (shT m)).length = T.length) := List.length_map ..
          rw [Hlm.out]
          clear cq2 hb6 HT hB HA
          by_cases hy : y = 0
          · subst hy
            go_wp2_with fail
            go_loopw [15] (fun i wr => ∃ k : Nat, k ≤ T.length ∧ i = .int .i64 (k : Nat) ∧ ∃ q, wr = w6.drewN q) (fun i _ => T.length - (intOf i).toNat)
            case atStart => exact ⟨0, Nat.zero_le _, rfl, 0, rfl⟩
            case round =>
              obtain ⟨s, hs, rfl, q, rfl⟩ := hrel
              by_cases hlt : s < T.length
              · obtain ⟨a', c', hva, hA⟩ := HT1.out
                injection hva with e1 e2 e3
                subst e1 e3
                obtain ⟨ga, rfl, hca, ra⟩ := hA (by omega)
                obtain ⟨gb, rfl, hcb, rb⟩ := HB.out (by omega)
                obtain ⟨a1, a2, a3⟩ := ra s hlt
                obtain ⟨b1, b2, b3⟩ := rb s hlt
                have hsl : (s : Int) < (T.length : Int) := by omega
                have hget : (T.map (shT m)).getD s (0, 0, 0) = shT m (T.getD s (0, 0, 0)) := by
                  rw [List.getD_eq_getElem?_getD, List.getD_eq_getElem?_getD, List.getElem?_map, List.getElem?_eq_getElem hlt]; rfl
                have htk : (T.getD s (0, 0, 0)).2.1 ≤ 200 := by
                  have := Htok.out (T.getD s (0, 0, 0)) (by rw [List.getD_eq_getElem?_getD, List.getElem?_eq_getElem hlt]; exact List.getElem_mem hlt)
                  have := Hks.out
                  omega
                rw [hget] at b1 b2 b3
                simp only [shT, Int.natCast_add] at b1 b2 b3
                clear ra rb hA hget e2
                generalize (T.getD s (0, 0, 0)).1 = x1 at *
                generalize (T.getD s (0, 0, 0)).2.1 = y1 at *
                generalize (T.getD s (0, 0, 0)).2.2 = z1 at *
                generalize T.length = tl at *
                go_wp2_with fail
                go_quiet (fail)
                go_wp2
                go_roundw
                case rel => exact ⟨s + 1, by omega, by go_num, _, rfl⟩
                case measure => simp [intOf]; omega
              · have hsl : ¬ ((s : Int) < (T.length : Int)) := by omega
                go_wp2
                go_ret
                exact ⟨rfl, bel_dN B6.out q⟩
          · have zy : ((y : Int) != 0) = true := by rw [bne_iff_ne]; omega
            have hzx : z = x + m := by rw [← Hz.out, if_neg hy]
            subst hzx
            clear hy
            have zz : (((x + m : Nat) : Int) != (x : Int) + (m : Int)) = false := by simp
            go_wp2_with fail
            go_loopw [15] (fun i wr => ∃ k : Nat, k ≤ T.length ∧ i = .int .i64 (k : Nat) ∧ ∃ q, wr = w6.drewN q) (fun i _ => T.length - (intOf i).toNat)
            case atStart => exact ⟨0, Nat.zero_le _, rfl, 0, rfl⟩
            case round =>
              obtain ⟨s, hs, rfl, q, rfl⟩ := hrel
              by_cases hlt : s < T.length
              · obtain ⟨a', c', hva, hA⟩ := HT1.out
                injection hva with e1 e2 e3
                subst e1 e3
                obtain ⟨ga, rfl, hca, ra⟩ := hA (by omega)
                obtain ⟨gb, rfl, hcb, rb⟩ := HB.out (by omega)
                obtain ⟨a1, a2, a3⟩ := ra s hlt
                obtain ⟨b1, b2, b3⟩ := rb s hlt
                have hsl : (s : Int) < (T.length : Int) := by omega
                have hget : (T.map (shT m)).getD s (0, 0, 0) = shT m (T.getD s (0, 0, 0)) := by
                  rw [List.getD_eq_getElem?_getD, List.getD_eq_getElem?_getD, List.getElem?_map, List.getElem?_eq_getElem hlt]; rfl
                have htk : (T.getD s (0, 0, 0)).2.1 ≤ 200 := by
                  have := Htok.out (T.getD s (0, 0, 0)) (by rw [List.getD_eq_getElem?_getD, List.getElem?_eq_getElem hlt]; exact List.getElem_mem hlt)
                  have := Hks.out
                  omega
                rw [hget] at b1 b2 b3
                simp only [shT, Int.natCast_add] at b1 b2 b3
                clear ra rb hA hget e2
                generalize (T.getD s (0, 0, 0)).1 = x1 at *
                generalize (T.getD s (0, 0, 0)).2.1 = y1 at *
                generalize (T.getD s (0, 0, 0)).2.2 = z1 at *
                generalize T.length = tl at *
                go_wp2_with fail
                go_quiet (fail)
                go_wp2
                go_roundw
                case rel => exact ⟨s + 1, by omega, by go_num, _, rfl⟩
                case measure => simp [intOf]; omega
              · have hsl : ¬ ((s : Int) < (T.length : Int)) := by omega
                go_wp2
                go_ret
                exact ⟨rfl, bel_dN B6.out q⟩
theorem law (v : Value) (n : Nat) (f : Nat → Nat) (c : Nat) (w : World) (h : IsArg w v n f) (hc : c < 256) :
    Calls Try.prog 8 #[v, .int .u8 (c : Nat)] w fun e w' => e = .returned (.bool true) ∧ Below w.heap.size w w' := by
  by_cases hn : 100 < n
  · exact long v n f c w h hc hn
  · exact short v n f c w h hc (by omega)


set_option maxRecDepth 100000 in
theorem lifted (os : Os) (started : os.Started) (H : Type) (enc : TypeId × Value → H) :
    ReturnsInHanded {} Try.checked os 8 .any (Rows.jsonBlanksSpec.pre6 enc Try.prog Try.f8 Rows.jsonBlanksRow.domain false) (Rows.jsonBlanksSpec.post enc Try.prog Try.f8 false true false false) := by
  refine returnsInHanded_of_change (C := Try.checked) own started (by kernel_rfl) Try.func8
    (ChangeSpec.witness6 (enc := enc) (C := Try.checked) false ⟨#[], #[.slice none 0 0, .int .u8 0], []⟩ 8 (by kernel_rfl) (by kernel_rfl) (by kernel_rfl) (by kernel_rfl)) ?_
  intro W base args ds gs before hval0 hW _ _
  have hval : ∀ (j : Nat) t v, Try.f8.params[j]? = some t → args[j]? = some v → Value.okWide Try.prog W .any base t v := hval0
  have hW' := hW
  obtain ⟨p, q, hA0, hV, rfl, _, _⟩ := hW
  have hA : DataW.TrodAll enc Try.prog W 0 (fun _ => true) true Try.f8.params.toList args.toList ds p := hA0
  rw [Try.params8] at hA hval
  obtain ⟨v0, vs0, d0, ds0, p0, q0, hargs, rfl, rfl, h0, r0⟩ := trodAll_cons hA
  obtain ⟨v1, vs1, d1, ds1, p1, q1, rfl, rfl, rfl, h1, r1⟩ := trodAll_cons r0
  obtain ⟨rfl, rfl, rfl⟩ := trodAll_nil r1
  obtain rfl : args = #[v0, v1] := by cases args; simp_all
  obtain ⟨rfl, rfl⟩ := trodVars_none hV
  have lt0 : ∀ x ∈ p0, x.block < W.heap.size := by obtain ⟨m, hm⟩ := h0; exact DataW.trod_lt m _ _ _ hm
  obtain ⟨n0, f0, g0⟩ := open_bytes (hval 0 22 v0 rfl rfl) h0
  obtain ⟨x1, rfl, rfl, rfl, w1⟩ := open_int Try.underlying5 (hval 1 5 v1 rfl rfl) h1
  have b1 : 0 ≤ x1 ∧ x1 ≤ 255 := by simpa [Lit.wf, IntKind.min, IntKind.max, IntKind.signed, IntKind.bits] using w1
  obtain ⟨c1, rfl⟩ := Int.eq_ofNat_of_zero_le b1.1
  clear hA0 hval0
  simp only [List.append_nil] at hW'
  refine (law v0 n0 f0 c1 W g0 (by omega)).mono fun e W' ⟨he, bel⟩ => ?_
  subst he
  exact ⟨_, rfl, _, _, _, [], _, [], hW', trodAll_mk1 (shut_bool Try.underlying4 _), (trodAll_cons_mk (Below.trod laidOut (by kernel_rfl) (of_decide_eq_true (by kernel_rfl)) h0 bel lt0) (trodAll_cons_mk (shut_int Try.underlying5 w1) trodAll_mk0)), rfl, bel.frame _, fun h => by cases h⟩

theorem said : Rows.JsonBlanksSaid :=
  OpenClaim.holds_of_wide 8 Try.f8 rfl rfl rfl rfl rfl rfl rfl ⟨rfl, rfl, rfl, rfl, rfl⟩ rfl rfl rfl rfl rfl (by kernel_rfl) Try.func8 (by kernel_rfl)
    (of_decide_eq_true (by kernel_rfl)) (by unfold Func.isWrapper; first | (rw [if_pos (by decide +kernel)]; kernel_rfl) | (rw [if_neg (by decide +kernel)]; exact ⟨rfl, rfl⟩))
    (fun os started H enc _ => lifted os started H enc)
#print axioms said
end Go.Proofs.Ytapghnmeiahgoaa.Blanks
