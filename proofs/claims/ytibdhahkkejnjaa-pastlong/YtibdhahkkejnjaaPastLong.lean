/- PastLong is true of any two bytes: an edit that would make too much is refused, and one that makes just as much as may be isn't. -/
import Derived.Test.YtibdhahkkejnjaaArgs
import Derived.Test.YtibdhahkkejnjaaPsQ
namespace Go.Proofs.Ytibdhahkkejnjaa.PastLong
open Go.ChangeShapes Go.WideShapes Go.ChangeAt Go.RowKit Go.Proofs.PlatenPiece
set_option linter.unusedVariables false
set_option maxRecDepth 100000

theorem made_heap {w : World} {B g n : Nat} {l : List Nat} (h : w.ownsRow B 5 1 (.slice (some ⟨g, 0, none⟩) n n) n (madeCells #[.int .u8 0] n).toList) : w.heap[g]? = some (.cells (bytesV (List.replicate n 0)).toArray 5 (0, 0)) := by
  rcases h.2 with ⟨e, _⟩ | ⟨g', cap, cur, e, _, e3, _, _, e6, e7⟩
  · cases e
  · simp only [Value.slice.injEq, Option.some.injEq, Addr.mk.injEq, and_true, true_and] at e
    obtain ⟨rfl, rfl⟩ := e
    rw [List.take_of_length_le (by rw [Array.length_toList, e6]; exact Nat.le_refl _)] at e7
    rw [e3, ← made_bytes, ← e7]

/-- So many zeros, as a string. -/
def zs (n : Nat) : ByteArray := ⟨((List.replicate n 0).map UInt8.ofNat).toArray⟩
theorem zs_size (n : Nat) : (zs n).size = n := by
  show ((List.replicate n 0).map UInt8.ofNat).toArray.size = n
  simp
def ed (m : Nat) (h : m ≤ 300) : Ed := ⟨1, ⟨#[0]⟩, zs m, by decide, by rw [zs_size]; omega⟩
theorem ed_fits (k m : Nat) (h : m ≤ 300) (hk : 2 ≤ k) : fitsL (List.replicate k 0) (ed m h) := by
  unfold fitsL ed
  refine ⟨by show (0 : Int) ≤ 1; decide, ?_, ?_⟩
  · rw [List.length_replicate]
    show (1 : Int) + ((1 : Nat) : Int) ≤ (k : Int)
    omega
  · show ((List.replicate k 0).drop 1).take 1 = [0]
    obtain ⟨j, rfl⟩ : ∃ j, k = j + 2 := ⟨k - 2, by omega⟩
    rfl
theorem ed_len (k m : Nat) (h : m ≤ 300) (hk : 2 ≤ k) (hm : k + m ≤ 65537) : (appL (List.replicate k 0) (ed m h)).length = k + m - 1 := by
  have hd : (delL (List.replicate k 0) 1 1).length = k - 1 := by
    unfold delL
    rw [if_pos (by rw [List.length_replicate]; omega)]
    simp only [List.length_append, List.length_take, List.length_drop, List.length_replicate]
    omega
  have hb : (bts (zs m)).length = m := by rw [bts_len, zs_size]
  have e1 : appL (List.replicate k 0) (ed m h) = insL (delL (List.replicate k 0) 1 1) 1 (bts (zs m)) := rfl
  rw [e1]
  unfold insL
  rw [if_pos (by rw [hd, hb]; omega)]
  simp only [List.length_append, List.length_take, List.length_drop, hd, hb]
  omega

set_option maxHeartbeats 4000000 in
theorem law (n m : Nat) (w : World) (hn : n < 256) (hm : m < 256) :
    Calls Try.prog 11 #[.int .u8 n, .int .u8 m] w fun e w' => e = .returned (.bool true) ∧ Below w.heap.size w w' := by
  obtain ⟨i0, hi, hz0, hz1, hz2⟩ := info_parts info5
  obtain ⟨k, hk⟩ : ∃ k : Nat, (65536 : Int) - (n : Int) = k := ⟨65536 - n, by omega⟩
  have hkn : k + n = 65536 := by omega
  have hk0 : 2 ≤ k := by omega
  have hk1 : k ≤ 65536 := by omega
  obtain ⟨m1, hm1⟩ : ∃ m1 : Nat, (m : Int) + 1 = (m1 : Int) := ⟨m + 1, by omega⟩
  have hm2 : m1 = m + 1 := by omega
  have Hm2 := hidden hm2
  clear hm2
  go_enter Try.func11, Try.ntmps11
  go_wp2_with fail
  refine (moves_any w).mono ?_
  rintro e w1 ⟨rfl, hb1⟩
  have Hb1 := hidden hb1
  clear hb1
  go_wp2_with (at_make; refine wpList_make_full _ rfl _ _ 22 rfl w1.heap.size 5 i0 (.int .u8 0) 1 Try.underlying22 hi hz0 hz1 _ _ _ _ k rfl rfl rfl rfl ?c1 ?c2 ?c3 ?_)
  case c1 => rw [hz2]; omega
  case c2 => unfold maxLen; omega
  case c3 => exact Nat.le_refl _
  intro w2 hown2 hgr2
  have c2 := new_some _ _ w2 (made_src hown2) (by rw [List.length_replicate]; omega) (by rw [List.length_replicate]; exact hk1)
  rw [List.length_replicate] at c2
  have C2 := hidden c2
  have Hb2 := hidden (Hb1.out.trans ((below_of_grown hgr2).mono Hb1.out.size))
  clear hown2 hgr2 c2 Hb1
  go_wp2_with fail
  refine C2.out.mono ?_
  rintro e w3 ⟨rfl, ⟨pv, q, hT⟩, hg3⟩
  have hT' : Tab w2.heap.size w3 w2.heap.size pv [⟨q, List.replicate k 0, 0⟩] (List.replicate k 0).length 0 := by rw [List.length_replicate]; exact hT
  have hX3 := tx_new hT' (by rw [List.length_replicate]; exact hk1) hg3.size
  have C3 := hidden (past_new hX3 hg3.size)
  have Hb3 := hidden (Hb2.out.trans ((below_of_grown hg3).mono Hb2.out.size))
  have HBS := hidden Hb2.out.size
  clear C2 hT hT' hg3 hX3 Hb2
  go_wp2_with fail
  refine C3.out.mono ?_
  rintro e w4 ⟨rfl, h4, hg4⟩
  have H4 := hidden h4
  have Hb4 := hidden (Hb3.out.trans ((below_of_grown hg4).mono Hb3.out.size))
  clear C3 h4 hg4 Hb3
  have hwm : IntKind.i64.wrap ((m : Int) + 1) = (m1 : Int) := by rw [hm1]; exact IntWalk.i64_in _ (by omega)
  go_wp2_with (at_make; refine wpList_make_full _ rfl _ _ 22 rfl w4.heap.size 5 i0 (.int .u8 0) 1 Try.underlying22 hi hz0 hz1 _ _ _ _ m1 rfl rfl rfl rfl ?d1 ?d2 ?d3 ?_)
  case d1 => rw [hz2]; omega
  case d2 => unfold maxLen; omega
  case d3 => exact Nat.le_refl _
  intro w5 hown5 hgr5
  have hcv := conv_back w4.heap.size m1 (List.replicate m1 0) (by intro c hc; rw [List.eq_of_mem_replicate hc]; decide) w5 (made_heap (l := []) hown5)
  rw [List.length_replicate] at hcv
  have hcv' : (convert 22 9 (.slice (some ⟨w4.heap.size, 0, none⟩) m1 m1)).run Try.prog w5 = .ok (.string (zs m1)) w5 := hcv
  have H5 := hidden (H4.out.grown hgr5)
  have Hb5 := hidden (Hb4.out.trans ((below_of_grown hgr5).mono Hb4.out.size))
  clear hown5 hgr5 hcv H4 Hb4 hwm
  have hm300 : m1 ≤ 300 := by omega
  obtain ⟨l, hl⟩ : ∃ l, List.replicate k 0 = l := ⟨_, rfl⟩
  have hl256 : Hid (∀ c ∈ l, c < 256) := by unfold Hid; rw [← hl]; intro c hc; rw [List.eq_of_mem_replicate hc]; decide
  have hll : Hid (l.length = k) := by unfold Hid; rw [← hl, List.length_replicate]
  have hfit : Hid (fitsL l (ed m1 hm300)) := by unfold Hid; rw [← hl]; exact ed_fits k m1 hm300 hk0
  have hal : Hid (m ≤ n → (appL l (ed m1 hm300)).length = k + m) := fun hmn => by rw [← hl, ed_len k m1 hm300 hk0 (by have := Hm2.out; omega)]; have := Hm2.out; omega
  rw [hl] at H5
  have Hbound : Hid (∀ kk, HOwn w3.heap.size (PlatenPiece.Own w2.heap.size pv [⟨q, l, 0⟩]) (.slice none 0 0) (.slice none 0 0) (.slice none 0 0) [] [] kk → w.heap.size ≤ kk) := fun kk hkk => Nat.le_trans HBS.out (H5.out.own kk hkk).1
  clear hl
  have hzsz : (zs m1).size = m1 := zs_size m1
  have Hzs := hidden hzsz
  clear hzsz
  go_wp2_with fail
  by_cases hmn : n < m
  · have hmz : (n : Int) < (m : Int) := by omega
    have C6 := hidden (do_long H5.out hl256.out (by decide) (ed m1 hm300) hfit.out (by have h1 := hll.out; have h2 := Hm2.out; have h3 := Hzs.out; show 65536 + 1 < l.length + (zs m1).size; omega))
    refine C6.out.mono ?_
    rintro e w6 ⟨rfl, hg6⟩
    have H6 := hidden (H5.out.grown hg6)
    have Hb6 := hidden (Hb5.out.trans ((below_of_grown hg6).mono Hb5.out.size))
    clear C6 hg6 H5 Hb5
    go_wp2_with fail
    refine (Depth_any H6.out).mono ?_
    rintro e w7 ⟨rfl, hg7⟩
    have H7 := hidden (H6.out.grown hg7)
    have Hb7 := hidden (Hb6.out.trans ((below_of_grown hg7).mono Hb6.out.size))
    have C8 := tx_len H7.out.tx
    rw [hll.out] at C8
    have HC8 := hidden C8
    clear hg7 H6 Hb6 C8
    go_wp2_with fail
    refine HC8.out.mono ?_
    rintro e w8 ⟨rfl, rfl⟩
    go_wp2
    go_ret
    exact ⟨rfl, Hb7.out⟩
  · have hmz : ¬ ((n : Int) < (m : Int)) := by omega
    obtain ⟨E, hE⟩ : ∃ E : Nat, (k : Int) + (m : Int) = (E : Int) := ⟨k + m, by omega⟩
    have hwE : IntKind.i64.wrap (E : Int) = (E : Int) := IntWalk.i64_in _ (by omega)
    by_cases hm0 : m = 0
    · have HLE : Hid (l.length = E) := by unfold Hid; rw [hll.out]; omega
      have hon : (ed m1 hm300).old = (ed m1 hm300).new := by
        have h1 : m1 = 1 := by have := Hm2.out; omega
        show (⟨#[0]⟩ : ByteArray) = zs m1
        rw [h1]; rfl
      have C6 := hidden (do_same H5.out hl256.out (by decide) (ed m1 hm300) hfit.out (by have h1 := hll.out; have h2 := Hm2.out; have h3 := Hzs.out; show l.length + (zs m1).size ≤ 65536 + 1; omega) hon)
      clear hm0 hon
      refine C6.out.mono ?_
      rintro e w6 ⟨rfl, hg6⟩
      have H6 := hidden (H5.out.grown hg6)
      have Hb6 := hidden (Hb5.out.trans ((below_of_grown hg6).mono Hb5.out.size))
      clear C6 hg6 H5 Hb5
      go_wp2_with fail
      refine (Depth_any H6.out).mono ?_
      rintro e w7 ⟨rfl, hg7⟩
      have H7 := hidden (H6.out.grown hg7)
      have Hb7 := hidden (Hb6.out.trans ((below_of_grown hg7).mono Hb6.out.size))
      have C8 := tx_len H7.out.tx
      rw [HLE.out] at C8
      have HC8 := hidden C8
      clear hg7 H6 Hb6 C8
      go_wp2_with fail
      refine HC8.out.mono ?_
      rintro e w8 ⟨rfl, rfl⟩
      go_wp2
      go_ret
      exact ⟨by simp, Hb7.out⟩
    · have HLE : Hid ((appL l (ed m1 hm300)).length = E) := by unfold Hid; rw [hal.out (by omega)]; omega
      have hon : (ed m1 hm300).old ≠ (ed m1 hm300).new := by
        intro hq
        have h1 := congrArg ByteArray.size hq
        have h2 : (ed m1 hm300).old.size = 1 := rfl
        have h3 : (ed m1 hm300).new.size = m1 := Hzs.out
        have := Hm2.out
        omega
      have C6 := hidden (do_yes H5.out hl256.out (by decide) (by decide) (ed m1 hm300) hfit.out (by have h1 := hll.out; have h2 := Hm2.out; have h3 := Hzs.out; show l.length + (zs m1).size ≤ 65536 + 1; omega) hon)
      clear hm0 hon
      refine C6.out.mono ?_
      rintro e w6 ⟨rfl, O6, ov6, h6, hK6, _⟩
      have H6 := hidden h6
      have Hb6 : Hid (Below w.heap.size w w6) := Hb5.out.trans (hK6.below Hb5.out.size Hbound.out)
      clear C6 h6 hK6 H5 Hb5
      go_wp2_with fail
      refine (Depth_any H6.out).mono ?_
      rintro e w7 ⟨rfl, hg7⟩
      have H7 := hidden (H6.out.grown hg7)
      have Hb7 := hidden (Hb6.out.trans ((below_of_grown hg7).mono Hb6.out.size))
      have C8 := tx_len H7.out.tx
      rw [HLE.out] at C8
      have HC8 := hidden C8
      clear hg7 H6 Hb6 C8
      go_wp2_with fail
      refine HC8.out.mono ?_
      rintro e w8 ⟨rfl, rfl⟩
      go_wp2
      go_ret
      exact ⟨by simp, Hb7.out⟩

theorem u8_lt {x : Int} (h : (Lit.int .u8 x).wf = true) : ∃ n : Nat, x = n ∧ n < 256 := by
  have b : 0 ≤ x ∧ x ≤ 255 := by simpa [Lit.wf, IntKind.min, IntKind.max, IntKind.signed, IntKind.bits] using h
  exact ⟨x.toNat, by omega, by omega⟩

set_option maxRecDepth 100000 in
theorem lifted (os : Os) (started : os.Started) (H : Type) (enc : TypeId × Value → H) :
    ReturnsInHanded {} Try.checked os 11 .any (Rows.pastLongSpec.pre6 enc Try.prog Try.f11 Rows.pastLongRow.domain false) (Rows.pastLongSpec.post enc Try.prog Try.f11 false true false false) := by
  refine returnsInHanded_of_change (C := Try.checked) own started (by kernel_rfl) Try.func11
    (ChangeSpec.witness6 (enc := enc) (C := Try.checked) false ⟨#[], #[.int .u8 0, .int .u8 0], []⟩ 8 (by kernel_rfl) (by kernel_rfl) (by kernel_rfl) (by kernel_rfl)) ?_
  intro W base args ds gs before hval0 hW _ _
  have hval : ∀ (j : Nat) t v, Try.f11.params[j]? = some t → args[j]? = some v → Value.okWide Try.prog W .any base t v := hval0
  have hW' := hW
  obtain ⟨p, q, hA0, hV, rfl, _, _⟩ := hW
  have hA : DataW.TrodAll enc Try.prog W 0 (fun _ => true) true Try.f11.params.toList args.toList ds p := hA0
  rw [Try.params11] at hA hval
  obtain ⟨v0, vs0, d0, ds0, p0, q0, hargs, rfl, rfl, h0, r0⟩ := trodAll_cons hA
  obtain ⟨v1, vs1, d1, ds1, p1, q1, rfl, rfl, rfl, h1, r1⟩ := trodAll_cons r0
  obtain ⟨rfl, rfl, rfl⟩ := trodAll_nil r1
  obtain rfl : args = #[v0, v1] := by cases args; simp_all
  obtain ⟨rfl, rfl⟩ := trodVars_none hV
  obtain ⟨x0, rfl, rfl, rfl, w0⟩ := open_int Try.underlying5 (hval 0 5 v0 rfl rfl) h0
  obtain ⟨x1, rfl, rfl, rfl, w1⟩ := open_int Try.underlying5 (hval 1 5 v1 rfl rfl) h1
  obtain ⟨n0, rfl, b0⟩ := u8_lt w0
  obtain ⟨n1, rfl, b1⟩ := u8_lt w1
  clear hA0 hval0
  simp only [List.append_nil] at hW'
  refine (law n0 n1 W b0 b1).mono fun e W' ⟨he, bel⟩ => ?_
  subst he
  exact ⟨_, rfl, _, _, _, [], _, [], hW', trodAll_mk1 (shut_bool Try.underlying4 _), (trodAll_cons_mk (shut_int Try.underlying5 w0) (trodAll_cons_mk (shut_int Try.underlying5 w1) trodAll_mk0)), rfl, bel.frame _, fun h => by cases h⟩

theorem said : Rows.PastLongSaid :=
  OpenClaim.holds_of_wide 11 Try.f11 rfl rfl rfl rfl rfl rfl rfl ⟨rfl, rfl, rfl, rfl, rfl⟩ rfl rfl rfl rfl rfl (by kernel_rfl) Try.func11 (by kernel_rfl)
    (of_decide_eq_true (by kernel_rfl)) (by unfold Func.isWrapper; first | (rw [if_pos (by decide +kernel)]; kernel_rfl) | (rw [if_neg (by decide +kernel)]; exact ⟨rfl, rfl⟩))
    (fun os started H enc _ => lifted os started H enc)
#print axioms said
end Go.Proofs.Ytibdhahkkejnjaa.PastLong
