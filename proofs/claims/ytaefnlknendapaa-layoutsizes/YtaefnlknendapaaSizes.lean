/- layout.Sizes gives, for any row of parts, what the reference gives, item by item. -/
import Derived.Test.YtaefnlknendapaaArgs
import Derived.Test.YtaefnlknendapaaRows
import Derived.Test.YtaefnlknendapaaPtG
import Derived.Test.YtaefnlknendapaaLzE
import Derived.ProofKit
import Derived.OpenShut
import Derived.ChangeOld
namespace Go.Proofs.Ytaefnlknendapaa.Sizes
open Go Go.ChangeShapes Go.WideShapes Go.ChangeAt Go.RowKit Go.Shelf Go.Proofs.PlatenLayout Go.Proofs.Ytaefnlknendapaa
set_option linter.unusedVariables false
set_option maxRecDepth 100000

set_option maxHeartbeats 1000000 in
theorem long (v : Value) (l : List Pt) (w : World) (h : IsParts w v l) (hl : 60 < l.length) : Calls Try.prog 3 #[v] w fun e w' => e = .returned (.bool true) ∧ Below w.heap.size w w' := by
  obtain ⟨hll, a, cap, rfl, _⟩ := h
  obtain ⟨n, hn⟩ : ∃ n, l.length = n := ⟨_, rfl⟩
  rw [hn] at hl hll ⊢
  clear hn
  have hz : ((n : Int) > 60) := by omega
  have c := group_any w
  go_enter Try.func3, Try.ntmps3
  go_wp2_with fail
  refine c.mono ?_
  rintro e w1 ⟨rfl, hb1⟩
  have c1 := group_any w1
  have HB1 := hidden hb1
  have hsz := hb1.size
  clear hb1
  go_wp2_with fail
  refine c1.mono ?_
  rintro e w2 ⟨rfl, hb2⟩
  have HB2 := hidden (HB1.out.trans (hb2.mono hsz))
  clear hb2
  go_wp2_with fail
  go_ret
  exact ⟨rfl, HB2.out⟩

set_option maxHeartbeats 2000000 in
theorem law (v : Value) (l : List Pt) (w : World) (h : IsParts w v l) : Calls Try.prog 3 #[v] w fun e w' => e = .returned (.bool true) ∧ Below w.heap.size w w' := by
  by_cases hl : 60 < l.length
  · exact long v l w h hl
  obtain ⟨hll, a, cap, e0, _⟩ := id h
  have HP := hidden h
  clear h
  subst e0
  obtain ⟨n, hn⟩ : ∃ n, l.length = n := ⟨_, rfl⟩
  have hl60 : l.length ≤ 60 := by omega
  rw [hn] at hl hll ⊢
  have hnz : ¬ ((n : Int) > 60) := by omega
  have Hnl := hidden hn
  clear hn
  have c := group_any w
  go_enter Try.func3, Try.ntmps3
  go_wp2_with fail
  refine c.mono ?_
  rintro e w1 ⟨rfl, hb1⟩
  have HB1 := hidden hb1
  have hsz1 := hb1.size
  have ci := items_any (HP.out.below hb1) (by omega)
  rw [Hnl.out] at ci
  have hok := itemsOk HP.out (by omega)
  clear hb1 HP
  go_wp2_with fail
  refine ci.mono ?_
  rintro e w2 ⟨u, rfl, hr2, hb2⟩
  have hB2 := HB1.out.trans (hb2.mono hsz1)
  have HB2 := hidden hB2
  have hsz2 : w.heap.size ≤ w2.heap.size := hB2.size
  obtain ⟨ia, icap, rfl⟩ := row_slice hr2
  have ok := hok
  have hI : IsItems w2 (.slice ia n icap) (l.map itemOf) := isItems_of (by rw [List.length_map, Hnl.out]; exact hr2)
  have HI := hidden hI
  have Hok := hidden ok
  clear hb2 hB2 hr2 HB1
  have c1 := sizes_any hI ok
  clear hI
  go_wp2_with fail
  refine c1.mono ?_
  rintro e w3 ⟨z, rfl, hz, hb3⟩
  have hI3 := HI.out.below hb3
  have c2 := rsizes_any hI3 ok
  have hB3 := HB2.out.trans (hb3.mono hsz2)
  have HB3 := hidden hB3
  have hsz3 : w.heap.size ≤ w3.heap.size := hB3.size
  have Hz := hidden hz
  obtain ⟨za, zc, rfl, hzc⟩ : ∃ a cap, z = .slice a (szs (l.map itemOf)).length cap ∧ (szs (l.map itemOf)).length ≤ cap := by
    obtain ⟨a, cap, e, hc, _⟩ := hz
    exact ⟨a, cap, e, hc⟩
  clear hz hI3 hb3 hB3
  go_wp2_with fail
  refine c2.mono ?_
  rintro e w4 ⟨y, rfl, hy, hb4⟩
  have HB4 := hidden (HB3.out.trans (hb4.mono hsz3))
  have Hz4 := hidden (Hz.out.below hb4)
  have Hy := hidden hy
  obtain ⟨ya, yc, rfl, hyc⟩ : ∃ a cap, y = .slice a (szs (l.map itemOf)).length cap ∧ (szs (l.map itemOf)).length ≤ cap := by
    obtain ⟨a, cap, e, hc, _⟩ := hy
    exact ⟨a, cap, e, hc⟩
  obtain ⟨n, hn⟩ : ∃ n, (szs (l.map itemOf)).length = n := ⟨_, rfl⟩
  rw [hn] at hzc hyc ⊢
  have hnb : n ≤ 60 := by rw [← hn, szs_len, List.length_map]; omega
  have Hn := hidden hn
  clear hb4 hn hy
  go_wp2_with fail
  go_loopw [6] (fun iv wr => ∃ k : Nat, k ≤ n ∧ iv = .int .i64 (k : Nat) ∧ IsZ wr (.slice za n zc) (szs (l.map itemOf)) ∧ IsZ wr (.slice ya n yc) (szs (l.map itemOf)) ∧ Below w.heap.size w wr) (fun iv _ => n - (intOf iv).toNat)
  case atStart => exact ⟨0, Nat.zero_le _, rfl, by rw [← Hn.out]; exact Hz4.out, by rw [← Hn.out]; exact Hy.out, HB4.out⟩
  case round =>
    obtain ⟨k, hk, rfl, hz, hy, hb⟩ := hrel
    have HZ := hidden hz
    have HY := hidden hy
    have HB := hidden hb
    by_cases hlt : k < n
    · have hlz : (k : Int) < (n : Int) := by omega
      obtain ⟨x, hx⟩ : ∃ x, (szs (l.map itemOf))[k]? = some x := ⟨_, List.getElem?_eq_getElem (by rw [Hn.out]; exact hlt)⟩
      obtain ⟨g, cap, e1, _, hg⟩ := hz.at' hx
      obtain ⟨g2, cap2, e2, _, hg2⟩ := hy.at' hx
      injection e1 with e1a e1b e1c
      injection e2 with e2a e2b e2c
      subst e1a e1c e2a e2c
      clear e1b e2b hx hz hy hb
      go_wp2_with fail
      go_region
      go_wp2_with fail
      go_roundw
      case rel => exact ⟨k + 1, hlt, by go_num, HZ.out.below (below_drew (Below.refl _ _)), HY.out.below (below_drew (Below.refl _ _)), below_drew HB.out⟩
      case measure => simp [intOf]; omega
    · have hlz : ¬ ((k : Int) < (n : Int)) := by omega
      clear hz hy hb
      go_wp2_with fail
      go_ret
      exact ⟨rfl, HB.out⟩
set_option maxRecDepth 100000 in
theorem lifted (os : Os) (started : os.Started) (H : Type) (enc : TypeId × Value → H) :
    ReturnsInHanded {} Try.checked os 3 .any (Rows.layoutSizesSpec.pre6 enc Try.prog Try.f3 Rows.layoutSizesRow.domain false) (Rows.layoutSizesSpec.post enc Try.prog Try.f3 false true false false) := by
  refine returnsInHanded_of_change (C := Try.checked) own started (by kernel_rfl) Try.func3
    (ChangeSpec.witness6 (enc := enc) (C := Try.checked) false ⟨#[], #[.slice none 0 0], []⟩ 8 (by kernel_rfl) (by kernel_rfl) (by kernel_rfl) (by kernel_rfl)) ?_
  intro W base args ds gs before hval0 hW _ _
  have hval : ∀ (j : Nat) t v, Try.f3.params[j]? = some t → args[j]? = some v → Value.okWide Try.prog W .any base t v := hval0
  have hW' := hW
  obtain ⟨p, q, hA0, hV, rfl, _, _⟩ := hW
  have hA : DataW.TrodAll enc Try.prog W 0 (fun _ => true) true Try.f3.params.toList args.toList ds p := hA0
  rw [Try.params3] at hA hval
  obtain ⟨v0, vs0, d0, ds0, p0, q0, hargs, rfl, rfl, h0, r0⟩ := trodAll_cons hA
  obtain ⟨rfl, rfl, rfl⟩ := trodAll_nil r0
  obtain rfl : args = #[v0] := by cases args; simp_all
  obtain ⟨rfl, rfl⟩ := trodVars_none hV
  have lt0 : ∀ x ∈ p0, x.block < W.heap.size := by obtain ⟨m, hm⟩ := h0; exact DataW.trod_lt m _ _ _ hm
  obtain ⟨f0, g0⟩ := open_acts (hval 0 22 v0 rfl rfl) h0
  clear hA0 hval0
  simp only [List.append_nil] at hW'
  refine (law v0 f0 W g0).mono fun e W' ⟨he, bel⟩ => ?_
  subst he
  exact ⟨_, rfl, _, _, _, [], _, [], hW', trodAll_mk1 (shut_bool Try.underlying4 _), (trodAll_cons_mk (Below.trod laidOut (by kernel_rfl) (of_decide_eq_true (by kernel_rfl)) h0 bel lt0) trodAll_mk0), rfl, bel.frame _, fun h => by cases h⟩

theorem said : Rows.LayoutSizesSaid :=
  OpenClaim.holds_of_wide 3 Try.f3 rfl rfl rfl rfl rfl rfl rfl ⟨rfl, rfl, rfl, rfl, rfl⟩ rfl rfl rfl rfl rfl (by kernel_rfl) Try.func3 (by kernel_rfl)
    (of_decide_eq_true (by kernel_rfl)) (by unfold Func.isWrapper; first | (rw [if_pos (by decide +kernel)]; kernel_rfl) | (rw [if_neg (by decide +kernel)]; exact ⟨rfl, rfl⟩))
    (fun os started H enc _ => lifted os started H enc)
#print axioms said
end Go.Proofs.Ytaefnlknendapaa.Sizes
