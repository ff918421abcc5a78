/- whatever the width, what layout.Lay gives holds the texts of the items in order, and besides them blanks and line ends alone. -/
import Derived.Test.YtaefnlknendapaaArgs
import Derived.Test.YtaefnlknendapaaRows
import Derived.Test.YtaefnlknendapaaPtG
import Derived.Test.YtaefnlknendapaaLzE
import Derived.Test.YtaefnlknendapaaLwB
import Derived.ProofKit
import Derived.OpenShut
import Derived.ChangeOld
namespace Go.Proofs.Ytaefnlknendapaa.Texts
open Go Go.ChangeShapes Go.WideShapes Go.ChangeAt Go.RowKit Go.Shelf Go.Proofs.PlatenLayout Go.Proofs.Ytaefnlknendapaa
set_option linter.unusedVariables false
set_option maxRecDepth 100000

set_option maxHeartbeats 1000000 in
theorem long (v : Value) (l : List Pt) (wd : Int) (w : World) (h : IsParts w v l) (hl : 60 < l.length) : Calls Try.prog 5 #[v, .int .i16 wd] w fun e w' => e = .returned (.bool true) ∧ Below w.heap.size w w' := by
  obtain ⟨hll, a, cap, rfl, _⟩ := h
  obtain ⟨n, hn⟩ : ∃ n, l.length = n := ⟨_, rfl⟩
  rw [hn] at hl hll ⊢
  clear hn
  have hz : ((n : Int) > 60) := by omega
  have c := group_any w
  go_enter Try.func5, Try.ntmps5
  go_wp2_with fail
  refine c.mono ?_
  rintro e w1 ⟨rfl, hb1⟩
  have c1 := group_any w1
  have HB1 := hidden hb1
  have hsz := hb1.size
  clear hb1
  go_wp2_with fail
  refine c1.mono ?_
  rintro e w2 ⟨rfl, hb2⟩
  have HB2 := hidden (HB1.out.trans (hb2.mono hsz))
  clear hb2
  go_wp2_with fail
  go_ret
  exact ⟨rfl, HB2.out⟩

set_option maxHeartbeats 4000000 in
theorem law (v : Value) (l : List Pt) (wd : Int) (w : World) (h : IsParts w v l) (hwd : -32768 ≤ wd ∧ wd ≤ 32767) : Calls Try.prog 5 #[v, .int .i16 wd] w fun e w' => e = .returned (.bool true) ∧ Below w.heap.size w w' := by
  by_cases hl : 60 < l.length
  · exact long v l wd w h hl
  have wz : IntKind.i64.wrap wd = wd := IntWalk.i64_in _ (by omega)
  obtain ⟨hll, a, cap, e0, _⟩ := id h
  have HP := hidden h
  clear h
  subst e0
  obtain ⟨n, hn⟩ : ∃ n, l.length = n := ⟨_, rfl⟩
  have hl60 : l.length ≤ 60 := by omega
  rw [hn] at hl hll ⊢
  have hnz : ¬ ((n : Int) > 60) := by omega
  have Hnl := hidden hn
  clear hn
  have c := group_any w
  go_enter Try.func5, Try.ntmps5
  go_wp2_with fail
  refine c.mono ?_
  rintro e w1 ⟨rfl, hb1⟩
  have HB1 := hidden hb1
  have hsz1 := hb1.size
  have ci := items_any (HP.out.below hb1) (by omega)
  rw [Hnl.out] at ci
  have hok := itemsOk HP.out (by omega)
  clear hb1 HP
  go_wp2_with fail
  refine ci.mono ?_
  rintro e w2 ⟨u, rfl, hr2, hb2⟩
  have hB2 := HB1.out.trans (hb2.mono hsz1)
  have HB2 := hidden hB2
  have hsz2 : w.heap.size ≤ w2.heap.size := hB2.size
  obtain ⟨ia, icap, rfl⟩ := row_slice hr2
  have ok := hok
  have hI : IsItems w2 (.slice ia n icap) (l.map itemOf) := isItems_of (by rw [List.length_map, Hnl.out]; exact hr2)
  have HI := hidden hI
  have Hok := hidden ok
  clear hb2 hB2 hr2 HB1
  have c1 := lay_any hI ok wd (by omega)
  have hq := fun q => lay_some (w := wd) (q := q) ok
  have htp := fun q => texts_plain (wd := wd) (l := l) (q := q)
  obtain ⟨o, ho⟩ : ∃ o, lay wd (l.map itemOf) s0 = o := ⟨_, rfl⟩
  rw [ho] at c1
  simp only [ho] at hq htp
  clear hI ho
  go_wp2_with fail
  refine c1.mono ?_
  rintro e w3 ⟨hres, hb3⟩
  have hI3 := HI.out.below hb3
  have hB3 := HB2.out.trans (hb3.mono hsz2)
  have HB3 := hidden hB3
  have HI3 := hidden hI3
  clear hI3 hb3 hB3
  cases o with
  | none =>
    have e1 : e = .returned (.tuple #[.string ByteArray.empty, .int .i64 4]) := hres
    subst e1
    clear hq hres htp
    go_wp2_with fail
    go_ret
    exact ⟨rfl, HB3.out⟩
  | some q =>
    obtain ⟨q1, q2⟩ := hq q rfl
    have HTP := hidden (htp q rfl)
    have HQ1 := hidden q1
    have e1 : e = .returned (.tuple #[.string (str q), .int .i64 0]) := hres
    subst e1
    obtain ⟨m, hm⟩ : ∃ m, (str q).size = m := ⟨_, rfl⟩
    obtain ⟨S, hS⟩ : ∃ S, str q = S := ⟨_, rfl⟩
    have HS := hidden hS
    rw [hS] at hm ⊢
    have Hm : Hid (q.length = m) := by unfold Hid; rw [← hm, ← hS, str_size]
    have hmb : m ≤ 65536 := by rw [← Hm.out]; exact q2
    clear hq hres htp hS q1 q2
    go_wp2_with fail
    go_loopw [8, 10] (fun xv iv wr => ∃ k : Nat, k ≤ n ∧ iv = .int .i64 (k : Nat) ∧ xv = .string (str (texts ((l.map itemOf).take k))) ∧ IsItems wr (.slice ia n icap) (l.map itemOf) ∧ Below w.heap.size w wr) (fun _ iv _ => n - (intOf iv).toNat)
    case atStart => exact ⟨0, Nat.zero_le _, rfl, rfl, HI3.out, HB3.out⟩
    case round =>
      obtain ⟨k, hk, rfl, rfl, hi, hb⟩ := hrel
      have HI4 := hidden hi
      have HB4 := hidden hb
      have htl := texts_len l k
      obtain ⟨X, hX⟩ : ∃ X, str (texts ((l.map itemOf).take k)) = X := ⟨_, rfl⟩
      have hXs : X.size ≤ 600 := by rw [← hX, str_size]; omega
      have HX := hidden hX
      rw [hX]
      clear hX htl
      by_cases hlt : k < n
      · have hlz : (k : Int) < (n : Int) := by omega
        have hkl : k < (l.map itemOf).length := by rw [List.length_map, Hnl.out]; exact hlt
        obtain ⟨b, off, cap', hv, _, c0, c1', _⟩ := hi.at' hkl
        have hsucc := texts_succ hkl
        have htl2 := (item_tx (l[k]'(by rw [Hnl.out]; exact hlt))).1
        obtain ⟨p, hp⟩ : ∃ p, (l.map itemOf)[k] = p := ⟨_, rfl⟩
        have hpt : p.tx.length ≤ 10 := by rw [← hp, List.getElem_map]; exact htl2
        rw [hp] at hsucc c0 c1'
        injection hv with hv1 hv2 hv3
        subst hv1 hv3
        obtain ⟨Y, hY⟩ : ∃ Y, str p.tx = Y := ⟨_, rfl⟩
        have hYs : Y.size ≤ 10 := by rw [← hY, str_size]; exact hpt
        rw [hY] at c1'
        have HY := hidden hY
        have HSU := hidden hsucc
        clear hv2 hsucc hp htl2 hpt hY hi hb
        by_cases hk1 : p.kind = 1
        · have hz1 : ((p.kind : Nat) : Int) = 1 := by omega
          rw [hz1] at c0
          have HN : Hid (str (texts ((l.map itemOf).take (k + 1))) = X ++ Y) := by
            unfold Hid
            rw [HSU.out, if_pos hk1, ← str_app', HX.out, HY.out]
          clear hk1 hz1
          go_wp2_with fail
          go_roundw
          case rel => exact ⟨k + 1, hlt, by go_num, by rw [HN.out], HI4.out, HB4.out⟩
          case measure => simp [intOf]; omega
        · have hz1 : ¬ (((p.kind : Nat) : Int) = 1) := by omega
          have HN : Hid (str (texts ((l.map itemOf).take (k + 1))) = X) := by
            unfold Hid
            rw [HSU.out, if_neg hk1, List.append_nil, HX.out]
          clear hk1
          go_wp2_with fail
          go_roundw
          case rel => exact ⟨k + 1, hlt, by go_num, by rw [HN.out], HI4.out, HB4.out⟩
          case measure => simp [intOf]; omega
      · have hlz : ¬ ((k : Int) < (n : Int)) := by omega
        have HW : Hid (X = str (texts (l.map itemOf))) := by
          unfold Hid
          rw [← HX.out, List.take_of_length_le (by rw [List.length_map, Hnl.out]; omega)]
        clear hi hb
        go_wp2_with fail
        go_loopw [9, 11] (fun xv iv wr => ∃ j : Nat, j ≤ m ∧ iv = .int .i64 (j : Nat) ∧ xv = .string (str (plain (q.take j))) ∧ Below w.heap.size w wr) (fun _ iv _ => m - (intOf iv).toNat)
        case atStart => exact ⟨0, Nat.zero_le _, rfl, rfl, HB4.out⟩
        case round =>
          obtain ⟨j, hj, rfl, rfl, hb5⟩ := hrel
          have HB5 := hidden hb5
          have hpl := plain_len (q.take j)
          have hpl2 : (q.take j).length ≤ m := by rw [List.length_take, Hm.out]; omega
          obtain ⟨Z, hZ⟩ : ∃ Z, str (plain (q.take j)) = Z := ⟨_, rfl⟩
          have hZs : Z.size ≤ 65536 := by rw [← hZ, str_size]; omega
          have HZ := hidden hZ
          rw [hZ]
          clear hZ hpl hpl2 hb5
          by_cases hjt : j < m
          · have hjz : (j : Int) < (m : Int) := by omega
            have hjq : j < q.length := by rw [Hm.out]; exact hjt
            have hjS : j < S.size := by rw [hm]; exact hjt
            obtain ⟨D, hD⟩ : ∃ D, q[j] = D := ⟨_, rfl⟩
            have hSD : ((S[j]'hjS).toNat : Int) = (D : Nat) := by
              have h1 := HQ1.out _ (List.getElem_mem hjq)
              rw [hD] at h1
              have h2 : S[j]'hjS = UInt8.ofNat D := by
                have h3 : ∀ (S' : ByteArray) (e : str q = S') (h : j < S'.size), S'[j]'h = UInt8.ofNat D := by
                  intro S' e h
                  subst e
                  rw [← hD]
                  show (str q).data[j]'_ = _
                  simp [str]
                exact h3 S HS.out hjS
              rw [h2]
              simp
              omega
            have hse := run_slice_string (P := Try.prog) wr 9 S .i64 .i64 (j : Int) ((j : Int) + 1) Try.underlying9 (by omega) (by omega) (by omega)
            have e1 : ((j : Int)).toNat = j := by omega
            have e2 : ((j : Int) + 1).toNat = j + 1 := by omega
            rw [e1, e2] at hse
            have hex : S.extract j (j + 1) = str [D] := by
              rw [← HS.out, str_ext q j (j + 1) (by omega) (by omega), List.take_add_one, List.getElem?_eq_getElem hjq, hD]
              congr 1
              rw [List.drop_append_of_le_length (by rw [List.length_take]; omega), List.drop_of_length_le (by rw [List.length_take]; omega)]
              rfl
            rw [hex] at hse
            obtain ⟨Y, hY⟩ : ∃ Y, str [D] = Y := ⟨_, rfl⟩
            have hYs : Y.size = 1 := by rw [← hY, str_size]; rfl
            rw [hY] at hse
            have HPS : Hid (str (plain (q.take (j + 1))) = if D ≠ 32 ∧ D ≠ 10 then Z ++ Y else Z) := by
              unfold Hid
              rw [plain_succ hjq, hD]
              split
              · rw [← str_app', HZ.out, hY]
              · rw [List.append_nil, HZ.out]
            clear hex e1 e2 hD hY
            by_cases d32 : D = 32
            · have HN : Hid (str (plain (q.take (j + 1))) = Z) := by unfold Hid; rw [HPS.out, if_neg (fun h => h.1 d32)]
              have z32 : ((D : Nat) : Int) = 32 := by omega
              rw [z32] at hSD
              clear d32 z32
              go_wp2_with fail
              go_roundw
              case rel => exact ⟨j + 1, hjt, by go_num, by rw [HN.out], HB5.out⟩
              case measure => simp [intOf]; omega
            have z32 : ¬ (((D : Nat) : Int) = 32) := by omega
            have y32 : (((D : Nat) : Int) != 32) = true := by simp; omega
            by_cases d10 : D = 10
            · have HN : Hid (str (plain (q.take (j + 1))) = Z) := by unfold Hid; rw [HPS.out, if_neg (fun h => h.2 d10)]
              have z10 : ((D : Nat) : Int) = 10 := by omega
              rw [z10] at hSD
              clear d10 d32 z10 z32 y32
              go_wp2_with fail
              go_roundw
              case rel => exact ⟨j + 1, hjt, by go_num, by rw [HN.out], HB5.out⟩
              case measure => simp [intOf]; omega
            have z10 : ¬ (((D : Nat) : Int) = 10) := by omega
            have y10 : (((D : Nat) : Int) != 10) = true := by simp; omega
            have HN : Hid (str (plain (q.take (j + 1))) = Z ++ Y) := by unfold Hid; rw [HPS.out, if_pos ⟨d32, d10⟩]
            clear d32 d10 HPS
            go_wp2_with fail
            go_roundw
            case rel => exact ⟨j + 1, hjt, by go_num, by rw [HN.out], HB5.out⟩
            case measure => simp [intOf]; omega
          · have hjz : ¬ ((j : Int) < (m : Int)) := by omega
            have hXZ : X = Z := by rw [HW.out, ← HTP.out, ← HZ.out, List.take_of_length_le (by rw [Hm.out]; omega)]
            clear HZ HW
            subst hXZ
            go_wp2_with fail
            go_ret
            exact ⟨rfl, HB5.out⟩
set_option maxRecDepth 100000 in
theorem lifted (os : Os) (started : os.Started) (H : Type) (enc : TypeId × Value → H) :
    ReturnsInHanded {} Try.checked os 5 .any (Rows.layoutTextsSpec.pre6 enc Try.prog Try.f5 Rows.layoutTextsRow.domain false) (Rows.layoutTextsSpec.post enc Try.prog Try.f5 false true false false) := by
  refine returnsInHanded_of_change (C := Try.checked) own started (by kernel_rfl) Try.func5
    (ChangeSpec.witness6 (enc := enc) (C := Try.checked) false ⟨#[], #[.slice none 0 0, .int .i16 0], []⟩ 8 (by kernel_rfl) (by kernel_rfl) (by kernel_rfl) (by kernel_rfl)) ?_
  intro W base args ds gs before hval0 hW _ _
  have hval : ∀ (j : Nat) t v, Try.f5.params[j]? = some t → args[j]? = some v → Value.okWide Try.prog W .any base t v := hval0
  have hW' := hW
  obtain ⟨p, q, hA0, hV, rfl, _, _⟩ := hW
  have hA : DataW.TrodAll enc Try.prog W 0 (fun _ => true) true Try.f5.params.toList args.toList ds p := hA0
  rw [Try.params5] at hA hval
  obtain ⟨v0, vs0, d0, ds0, p0, q0, hargs, rfl, rfl, h0, r0⟩ := trodAll_cons hA
  obtain ⟨v1, vs1, d1, ds1, p1, q1, rfl, rfl, rfl, h1, r1⟩ := trodAll_cons r0
  obtain ⟨rfl, rfl, rfl⟩ := trodAll_nil r1
  obtain rfl : args = #[v0, v1] := by cases args; simp_all
  obtain ⟨rfl, rfl⟩ := trodVars_none hV
  have lt0 : ∀ x ∈ p0, x.block < W.heap.size := by obtain ⟨m, hm⟩ := h0; exact DataW.trod_lt m _ _ _ hm
  obtain ⟨f0, g0⟩ := open_acts (hval 0 22 v0 rfl rfl) h0
  obtain ⟨x1, rfl, rfl, rfl, w1⟩ := open_int Try.underlying29 (hval 1 29 v1 rfl rfl) h1
  have b1 : -32768 ≤ x1 ∧ x1 ≤ 32767 := by simpa [Lit.wf, IntKind.min, IntKind.max, IntKind.signed, IntKind.bits] using w1
  clear hA0 hval0
  simp only [List.append_nil] at hW'
  refine (law v0 f0 x1 W g0 b1).mono fun e W' ⟨he, bel⟩ => ?_
  subst he
  exact ⟨_, rfl, _, _, _, [], _, [], hW', trodAll_mk1 (shut_bool Try.underlying4 _), (trodAll_cons_mk (Below.trod laidOut (by kernel_rfl) (of_decide_eq_true (by kernel_rfl)) h0 bel lt0) (trodAll_cons_mk (shut_int Try.underlying29 w1) trodAll_mk0)), rfl, bel.frame _, fun h => by cases h⟩

theorem said : Rows.LayoutTextsSaid :=
  OpenClaim.holds_of_wide 5 Try.f5 rfl rfl rfl rfl rfl rfl rfl ⟨rfl, rfl, rfl, rfl, rfl⟩ rfl rfl rfl rfl rfl (by kernel_rfl) Try.func5 (by kernel_rfl)
    (of_decide_eq_true (by kernel_rfl)) (by unfold Func.isWrapper; first | (rw [if_pos (by decide +kernel)]; kernel_rfl) | (rw [if_neg (by decide +kernel)]; exact ⟨rfl, rfl⟩))
    (fun os started H enc _ => lifted os started H enc)
#print axioms said
end Go.Proofs.Ytaefnlknendapaa.Texts
