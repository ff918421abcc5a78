/- Of signs by numbers and of texts grown of nodes, tree.Items answers just what the document's Items answers, item by item. -/
import Derived.Test.YtfakfgmengcndaaArgsZ
import Derived.Test.YtfakfgmengcndaaKR
import Derived.OwnWalk
namespace Go.Proofs.Ytfakfgmengcndaa.Items
open Go.ChangeShapes Go.WideShapes Go.ChangeAt Go.RowKit Go.Proofs.PlatenTree
open Go.Proofs.PlatenLayout (str str_size IsItems)
set_option linter.unusedVariables false
set_option maxRecDepth 100000

set_option maxHeartbeats 4000000 in
theorem long (v : Value) (n : Nat) (f : Nat → Nat) (u : Value) (l : List Nd) (s : Bool) (w : World) (h : IsArg w v n f) (hu : IsNd w u l) (hn : 80 < n) :
    Calls Try.prog 4 #[v, u, .bool s] w fun e w' => e = .returned (.bool true) ∧ Below w.heap.size w w' := by
  obtain ⟨hf, hm, a, cap, rfl, _⟩ := h
  obtain ⟨_, a2, cap2, rfl, _⟩ := hu
  have hlz : (80 : Int) < (n : Int) := by omega
  clear hn
  go_enter Try.func4, Try.ntmps4
  go_wp2_with fail
  refine (laid_any w).mono ?_
  rintro e w1 ⟨rfl, hb⟩
  have B1 := hidden hb
  clear hb
  go_wp2_with fail
  refine (laid_any w1).mono ?_
  rintro e w2 ⟨rfl, hb⟩
  have B2 := hidden (B1.out.trans (hb.mono B1.out.size))
  clear hb
  go_wp2_with fail
  go_ret
  exact ⟨rfl, B2.out⟩
set_option maxHeartbeats 4000000 in
theorem longL (v : Value) (n : Nat) (f : Nat → Nat) (u : Value) (l : List Nd) (s : Bool) (w : World) (h : IsArg w v n f) (hu : IsNd w u l) (hn : n ≤ 80) (hl : 40 < l.length) :
    Calls Try.prog 4 #[v, u, .bool s] w fun e w' => e = .returned (.bool true) ∧ Below w.heap.size w w' := by
  obtain ⟨hf, hm, a, cap, rfl, _⟩ := h
  obtain ⟨_, a2, cap2, rfl, _⟩ := hu
  have hlz : ¬ ((80 : Int) < (n : Int)) := by omega
  have hll : (40 : Int) < (l.length : Int) := by omega
  obtain ⟨m, hm⟩ : ∃ m, l.length = m := ⟨_, rfl⟩
  rw [hm] at hll hl ⊢
  clear hn hl hm
  go_enter Try.func4, Try.ntmps4
  go_wp2_with fail
  refine (laid_any w).mono ?_
  rintro e w1 ⟨rfl, hb⟩
  have B1 := hidden hb
  clear hb
  go_wp2_with fail
  refine (laid_any w1).mono ?_
  rintro e w2 ⟨rfl, hb⟩
  have B2 := hidden (B1.out.trans (hb.mono B1.out.size))
  clear hb
  go_wp2_with fail
  go_ret
  exact ⟨rfl, B2.out⟩
set_option maxHeartbeats 4000000 in
theorem short (v : Value) (n : Nat) (f : Nat → Nat) (u : Value) (l : List Nd) (s : Bool) (w : World) (h : IsArg w v n f) (hu : IsNd w u l) (hn : n ≤ 80) (hl : l.length ≤ 40) :
    Calls Try.prog 4 #[v, u, .bool s] w fun e w' => e = .returned (.bool true) ∧ Below w.heap.size w w' := by
  obtain ⟨hf, hm0, hr⟩ := h
  have HR := hidden hr
  have HF := hidden hf
  have HU := hidden hu
  have HN : Hid (n ≤ 80) := hidden hn
  have HL : Hid (l.length ≤ 40) := hidden hl
  obtain ⟨a, cap, rfl, _⟩ := hr
  obtain ⟨_, a2, cap2, rfl, _⟩ := hu
  have hlz : ¬ ((80 : Int) < (n : Int)) := by omega
  have hll : ¬ ((40 : Int) < (l.length : Int)) := by omega
  have CT := fun (W : World) (hW : Below w.heap.size w W) => text_any s (w := W) (HR.out.below hW) HF.out (by have := HN.out; omega)
  have CG := fun (W : World) (hW : Below w.heap.size w W) => grown_any s (w := W) (HU.out.below hW) HL.out
  have P1 := txtL_lt s f n
  have P1l := txtL_len s f n
  have P2 := mk_lt s 9 l
  have P2l := mk_len s 9 l
  have ok2 : (ansL s (mk s 9 l).1).2.2 = 0 := by
    obtain ⟨P, hP⟩ := grown_rd s hl
    obtain ⟨T, eT, _⟩ := ansL_ok hP
    rw [eT]
  obtain ⟨p1, hp1⟩ : ∃ p, txtL s f n = p := ⟨_, rfl⟩
  obtain ⟨p2, hp2⟩ : ∃ p, (mk s 9 l).1 = p := ⟨_, rfl⟩
  rw [hp1] at P1 P1l
  rw [hp2] at P2 P2l ok2
  simp only [hp1] at CT
  simp only [hp2] at CG
  have l1 : p1.length ≤ 80 := by omega
  have l2 : p2.length ≤ 1100 := by omega
  have n1 := itL_len s p1
  have n2 := itL_len s p2
  obtain ⟨i1, hi1⟩ : ∃ i, (ansL s p1).2.1 = i := ⟨_, rfl⟩
  obtain ⟨e1, he1⟩ : ∃ i, (ansL s p1).2.2 = i := ⟨_, rfl⟩
  obtain ⟨i2, hi2⟩ : ∃ i, (ansL s p2).2.1 = i := ⟨_, rfl⟩
  obtain ⟨L1, hL1⟩ : ∃ i, itL s p1 = i := ⟨_, rfl⟩
  obtain ⟨L2, hL2⟩ : ∃ i, itL s p2 = i := ⟨_, rfl⟩
  have cvt : ∀ {p : List Nat} {w0 w' : World} {e : Ending}, ItRes s p w0 e w' ∧ Below w0.heap.size w0 w' → ∃ u, e = .returned (.tuple #[u, .int .i64 ((ansL s p).2.1 : Nat), .int .i64 ((ansL s p).2.2 : Nat)]) ∧ IsItems w' u (itL s p) ∧ Below w0.heap.size w0 w' := fun h => by
    obtain ⟨u, h1, h2⟩ := itRes_one h.1
    exact ⟨u, h1, h2, h.2⟩
  have CI1 := fun (W : World) (x : Value) (hx : RowL W x p1) => (items_any s P1 (by omega) hx).mono fun _ _ h => cvt h
  have CR1 := fun (W : World) (x : Value) (hx : RowL W x p1) => (ritems_any s P1 (by omega) hx).mono fun _ _ h => cvt h
  have CI2 := fun (W : World) (x : Value) (hx : RowL W x p2) => (items_any s P2 (by omega) hx).mono fun _ _ h => cvt h
  have CR2 := fun (W : World) (x : Value) (hx : RowL W x p2) => (ritems_any s P2 (by omega) hx).mono fun _ _ h => cvt h
  rw [hi1, he1, hL1] at CI1 CR1
  rw [hi2, ok2, hL2] at CI2 CR2
  rw [hL1] at n1
  rw [hL2] at n2
  have m1 : L1.length ≤ 1000000 := by omega
  have m2 : L2.length ≤ 1000000 := by omega
  clear cvt n1 n2 P1l P2l hi1 he1 hi2 hL1 hL2 P1 P2 l1 l2 hm0 hf hn hl ok2
  clear hp1 hp2
  go_enter Try.func4, Try.ntmps4
  go_wp2_with fail
  refine (laid_any w).mono ?_
  rintro e w1 ⟨rfl, hb⟩
  have B1 := hidden hb
  clear hb
  have cx := CT w1 B1.out
  go_wp2_with fail
  refine cx.mono ?_
  clear cx
  rintro e w2 ⟨x1, rfl, hx, hb⟩
  have B2 := hidden (B1.out.trans (hb.mono B1.out.size))
  have cx := CI1 w2 x1 hx
  go_wp2_with fail
  refine cx.mono ?_
  clear cx
  rintro e w3 ⟨y1, rfl, hy1, hb⟩
  have B3 := hidden (B2.out.trans (hb.mono B2.out.size))
  have Y1 := hidden hy1
  clear hb hy1 hx
  have cx := CT w3 B3.out
  go_wp2_with fail
  refine cx.mono ?_
  clear cx
  rintro e w4 ⟨x2, rfl, hx, hb⟩
  have B4 := hidden (B3.out.trans (hb.mono B3.out.size))
  have Y1 := hidden (Y1.out.below hb)
  clear hb
  have cx := CR1 w4 x2 hx
  go_wp2_with fail
  refine cx.mono ?_
  clear cx
  rintro e w5 ⟨y2, rfl, hy2, hb⟩
  have B5 := hidden (B4.out.trans (hb.mono B4.out.size))
  have Y1 := hidden (Y1.out.below hb)
  have Y2 := hidden hy2
  clear hb hy2 hx
  have cx := CG w5 B5.out
  go_wp2_with fail
  refine cx.mono ?_
  clear cx
  rintro e w6 ⟨x3, rfl, hx, hb⟩
  have B6 := hidden (B5.out.trans (hb.mono B5.out.size))
  have Y1 := hidden (Y1.out.below hb)
  have Y2 := hidden (Y2.out.below hb)
  clear hb
  have cx := CI2 w6 x3 hx
  go_wp2_with fail
  refine cx.mono ?_
  clear cx
  rintro e w7 ⟨y3, rfl, hy3, hb⟩
  have B7 := hidden (B6.out.trans (hb.mono B6.out.size))
  have Y1 := hidden (Y1.out.below hb)
  have Y2 := hidden (Y2.out.below hb)
  have Y3 := hidden hy3
  clear hb hy3 hx
  have cx := CG w7 B7.out
  go_wp2_with fail
  refine cx.mono ?_
  clear cx
  rintro e w8 ⟨x4, rfl, hx, hb⟩
  have B8 := hidden (B7.out.trans (hb.mono B7.out.size))
  have Y1 := hidden (Y1.out.below hb)
  have Y2 := hidden (Y2.out.below hb)
  have Y3 := hidden (Y3.out.below hb)
  clear hb
  have cx := CR2 w8 x4 hx
  go_wp2_with fail
  refine cx.mono ?_
  clear cx
  rintro e w9 ⟨y4, rfl, hy4, hb⟩
  have B9 := hidden (B8.out.trans (hb.mono B8.out.size))
  have Y1 := hidden (Y1.out.below hb)
  have Y2 := hidden (Y2.out.below hb)
  have Y3 := hidden (Y3.out.below hb)
  have Y4 := hidden hy4
  clear hb hy4 hx
  have S1 := isame_any y1 y2 L1 w9 m1 Y1.out Y2.out
  have S2 := fun (W : World) (hW : Below w9.heap.size w9 W) => isame_any y3 y4 L2 W m2 (Y3.out.below hW) (Y4.out.below hW)
  obtain ⟨sa1, sc1, rfl, _⟩ := Y1.out
  obtain ⟨sa2, sc2, rfl, _⟩ := Y2.out
  obtain ⟨sa3, sc3, rfl, _⟩ := Y3.out
  obtain ⟨sa4, sc4, rfl, _⟩ := Y4.out
  have cx := S1
  go_wp2_with fail
  refine cx.mono ?_
  clear cx
  rintro e w10 ⟨rfl, hb⟩
  have B10 := hidden (B9.out.trans (hb.mono B9.out.size))
  have cs2 := S2 w10 hb
  clear hb S2
  have cx := cs2
  go_wp2_with fail
  refine cx.mono ?_
  clear cx
  rintro e w11 ⟨rfl, hb⟩
  have B11 := hidden (B10.out.trans (hb.mono B10.out.size))
  clear hb
  go_wp2_with fail
  go_ret
  exact ⟨rfl, B11.out⟩
theorem law (v : Value) (n : Nat) (f : Nat → Nat) (u : Value) (l : List Nd) (s : Bool) (w : World) (h : IsArg w v n f) (hu : IsNd w u l) :
    Calls Try.prog 4 #[v, u, .bool s] w fun e w' => e = .returned (.bool true) ∧ Below w.heap.size w w' := by
  rcases Nat.lt_or_ge 80 n with hn | hn
  · exact long v n f u l s w h hu hn
  rcases Nat.lt_or_ge 40 l.length with hl | hl
  · exact longL v n f u l s w h hu hn hl
  · exact short v n f u l s w h hu hn hl
set_option maxRecDepth 100000 in
theorem lifted (os : Os) (started : os.Started) (H : Type) (enc : TypeId × Value → H) :
    ReturnsInHanded {} Try.checked os 4 .any (Rows.treeItemsSpec.pre6 enc Try.prog Try.f4 Rows.treeItemsRow.domain false) (Rows.treeItemsSpec.post enc Try.prog Try.f4 false true false false) := by
  refine returnsInHanded_of_change (C := Try.checked) own started (by kernel_rfl) Try.func4
    (ChangeSpec.witness6 (enc := enc) (C := Try.checked) false ⟨#[], #[.slice none 0 0, .slice none 0 0, .bool false], []⟩ 8 (by kernel_rfl) (by kernel_rfl) (by kernel_rfl) (by kernel_rfl)) ?_
  intro W base args ds gs before hval0 hW _ _
  have hval : ∀ (j : Nat) t v, Try.f4.params[j]? = some t → args[j]? = some v → Value.okWide Try.prog W .any base t v := hval0
  have hW' := hW
  obtain ⟨p, q, hA0, hV, rfl, _, _⟩ := hW
  have hA : DataW.TrodAll enc Try.prog W 0 (fun _ => true) true Try.f4.params.toList args.toList ds p := hA0
  rw [Try.params4] at hA hval
  obtain ⟨v0, vs0, d0, ds0, p0, q0, hargs, rfl, rfl, h0, r0⟩ := trodAll_cons hA
  obtain ⟨v1, vs1, d1, ds1, p1, q1, rfl, rfl, rfl, h1, r1⟩ := trodAll_cons r0
  obtain ⟨v2, vs2, d2, ds2, p2, q2, rfl, rfl, rfl, h2, r2⟩ := trodAll_cons r1
  obtain ⟨rfl, rfl, rfl⟩ := trodAll_nil r2
  obtain rfl : args = #[v0, v1, v2] := by cases args; simp_all
  obtain ⟨rfl, rfl⟩ := trodVars_none hV
  have lt0 : ∀ x ∈ p0, x.block < W.heap.size := by obtain ⟨m, hm⟩ := h0; exact DataW.trod_lt m _ _ _ hm
  obtain ⟨n0, f0, g0⟩ := open_bytes (hval 0 22 v0 rfl rfl) h0
  have lt1 : ∀ x ∈ p1, x.block < W.heap.size := by obtain ⟨m, hm⟩ := h1; exact DataW.trod_lt m _ _ _ hm
  obtain ⟨f1, g1⟩ := open_acts (hval 1 30 v1 rfl rfl) h1
  obtain ⟨x2, rfl, rfl, rfl⟩ := open_bool Try.underlying4 (hval 2 4 v2 rfl rfl) h2
  clear hA0 hval0
  simp only [List.append_nil] at hW'
  refine (law v0 n0 f0 v1 f1 x2 W g0 g1).mono fun e W' ⟨he, bel⟩ => ?_
  subst he
  exact ⟨_, rfl, _, _, _, [], _, [], hW', trodAll_mk1 (shut_bool Try.underlying4 _), (trodAll_cons_mk (Below.trod laidOut (by kernel_rfl) (of_decide_eq_true (by kernel_rfl)) h0 bel lt0) (trodAll_cons_mk (Below.trod laidOut (by kernel_rfl) (of_decide_eq_true (by kernel_rfl)) h1 bel lt1) (trodAll_cons_mk (shut_bool Try.underlying4 _) trodAll_mk0))), rfl, bel.frame _, fun h => by cases h⟩

theorem said : Rows.TreeItemsSaid :=
  OpenClaim.holds_of_wide 4 Try.f4 rfl rfl rfl rfl rfl rfl rfl ⟨rfl, rfl, rfl, rfl, rfl⟩ rfl rfl rfl rfl rfl (by kernel_rfl) Try.func4 (by kernel_rfl)
    (of_decide_eq_true (by kernel_rfl)) (by unfold Func.isWrapper; first | (rw [if_pos (by decide +kernel)]; kernel_rfl) | (rw [if_neg (by decide +kernel)]; exact ⟨rfl, rfl⟩))
    (fun os started H enc _ => lifted os started H enc)
#print axioms said
end Go.Proofs.Ytfakfgmengcndaa.Items
