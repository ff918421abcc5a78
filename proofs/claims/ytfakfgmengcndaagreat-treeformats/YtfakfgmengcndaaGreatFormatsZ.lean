/- A tree grown of nodes is laid out in a width byte by byte as the document's Lay lays out the document's Items of it. -/
import Derived.Test.YtfakfgmengcndaaGreatArgsZ
import Derived.Test.YtfakfgmengcndaaGreatKR
import Derived.Test.YtfakfgmengcndaaGreatKS
import Derived.OwnWalk
namespace Go.Proofs.YtfakfgmengcndaaGreat.Formats
open Go.ChangeShapes Go.WideShapes Go.ChangeAt Go.RowKit Go.Proofs.PlatenTree
open Go.Proofs.PlatenLayout (str str_size IsItems lay s0 LayB rlay_any)
set_option linter.unusedVariables false
set_option maxRecDepth 100000

set_option maxHeartbeats 4000000 in
theorem long (u : Value) (l : List Nd) (s : Bool) (wd : Int) (w : World) (hu : IsNd w u l) (hwd : -32768 ≤ wd ∧ wd ≤ 32767) (hl : 40 < l.length) :
    Calls Tryz.prog 3 #[u, .bool s, .int .i16 wd] w fun e w' => e = .returned (.bool true) ∧ Below w.heap.size w w' := by
  obtain ⟨_, a2, cap2, rfl, _⟩ := hu
  have hll : (40 : Int) < (l.length : Int) := by omega
  obtain ⟨m, hm⟩ : ∃ m, l.length = m := ⟨_, rfl⟩
  rw [hm] at hll hl ⊢
  clear hl hm
  go_enter Tryz.func3, Tryz.ntmps3
  go_wp2_with fail
  refine (laid_any w).mono ?_
  rintro e w1 ⟨rfl, hb⟩
  have B1 := hidden hb
  clear hb
  go_wp2_with fail
  refine (laid_any w1).mono ?_
  rintro e w2 ⟨rfl, hb⟩
  have B2 := hidden (B1.out.trans (hb.mono B1.out.size))
  clear hb
  go_wp2_with fail
  go_ret
  exact ⟨rfl, B2.out⟩
set_option maxHeartbeats 4000000 in
theorem short (u : Value) (l : List Nd) (s : Bool) (wd : Int) (w : World) (hu : IsNd w u l) (hwd : -32768 ≤ wd ∧ wd ≤ 32767) (hl : l.length ≤ 40) :
    Calls Tryz.prog 3 #[u, .bool s, .int .i16 wd] w fun e w' => e = .returned (.bool true) ∧ Below w.heap.size w w' := by
  have HU := hidden hu
  have HL : Hid (l.length ≤ 40) := hidden hl
  obtain ⟨_, a2, cap2, rfl, _⟩ := hu
  have hll : ¬ ((40 : Int) < (l.length : Int)) := by omega
  have hwr : IntKind.i64.wrap wd = wd := IntWalk.i64_in _ (by omega)
  have CG := fun (W : World) (hW : Below w.heap.size w W) => grown_any s (w := W) (HU.out.below hW) HL.out
  have hg : Pg s (mk s 9 l).1 := pg_grown s hl
  obtain ⟨P, hP⟩ := grown_rd s hl
  obtain ⟨p, hp⟩ : ∃ p, (mk s 9 l).1 = p := ⟨_, rfl⟩
  rw [hp] at hg hP
  simp only [hp] at CG
  clear hp
  have hpl := hg.len
  obtain ⟨q, hq⟩ := hg.room P hP wd
  obtain ⟨q1, q2, q3⟩ := laid_out hg hP hq
  have ok := okL_itms hP hg.lt (by omega) (hg.items P hP)
  have CF := fun (W : World) (x : Value) (hx : RowL W x p) => format_any s wd (w := W) (by omega) hg.lt (by omega) hx hg.items
  simp only [fmt_yes hP hq] at CF
  have CI := fun (W : World) (x : Value) (hx : RowL W x p) => (ritems_any s hg.lt (by omega) hx).mono fun _ _ h => (⟨itRes_one h.1, h.2⟩ : (∃ u, _) ∧ _)
  have eI : itL s p = itms chn s 0 P := by unfold itL; rw [hP]
  rw [eI] at CI
  have CL := fun (W : World) (x : Value) (hx : IsItems W x (itms chn s 0 P)) => rlay_any hx ok wd (by omega)
  rw [hq] at CL
  have CV := fun (W : World) (x : Value) (hx : RowL W x q) => conv_str hx q1
  obtain ⟨T, eT, _⟩ := ansL_ok hP
  rw [eT] at CI
  obtain ⟨S, hS⟩ : ∃ S, str q = S := ⟨_, rfl⟩
  rw [hS] at CF CV
  obtain ⟨L, hL⟩ : ∃ L, itms chn s 0 P = L := ⟨_, rfl⟩
  rw [hL] at CI CL
  clear hg hP hpl hq q1 q2 q3 ok eI hS hL eT hl
  go_enter Tryz.func3, Tryz.ntmps3
  go_wp2_with fail
  refine (laid_any w).mono ?_
  rintro e w1 ⟨rfl, hb⟩
  have B1 := hidden hb
  clear hb
  have cx := CG w1 B1.out
  go_wp2_with fail
  refine cx.mono ?_
  clear cx
  rintro e w2 ⟨x, rfl, hx, hb⟩
  have B2 := hidden (B1.out.trans (hb.mono B1.out.size))
  have HX := hidden hx
  clear hb hx
  have cx := CF w2 x HX.out
  go_wp2_with fail
  refine cx.mono ?_
  clear cx
  rintro e w3 ⟨rfl, hb⟩
  have B3 := hidden (B2.out.trans (hb.mono B2.out.size))
  have HX := hidden (HX.out.below hb)
  clear hb
  have cx := CI w3 x HX.out
  go_wp2_with fail
  refine cx.mono ?_
  clear cx
  rintro e w4 ⟨⟨y, rfl, hy⟩, hb⟩
  have B4 := hidden (B3.out.trans (hb.mono B3.out.size))
  have HY := hidden hy
  clear hb hy
  have cx := CL w4 y HY.out
  go_wp2_with fail
  refine cx.mono ?_
  clear cx
  rintro e w5 ⟨⟨rv, B, rfl, hBB, hr⟩, hb⟩
  have B5 := hidden (B4.out.trans (hb.mono B4.out.size))
  have hcv := CV w5 rv (rowL_of (B := B) hr)
  clear hb hr hBB
  go_wp2_with fail
  go_ret
  exact ⟨rfl, B5.out⟩
theorem law (u : Value) (l : List Nd) (s : Bool) (wd : Int) (w : World) (hu : IsNd w u l) (hwd : -32768 ≤ wd ∧ wd ≤ 32767) :
    Calls Tryz.prog 3 #[u, .bool s, .int .i16 wd] w fun e w' => e = .returned (.bool true) ∧ Below w.heap.size w w' := by
  rcases Nat.lt_or_ge 40 l.length with hl | hl
  · exact long u l s wd w hu hwd hl
  · exact short u l s wd w hu hwd hl
set_option maxRecDepth 100000 in
theorem lifted (os : Os) (started : os.Started) (H : Type) (enc : TypeId × Value → H) :
    ReturnsInHanded {} Tryz.checked os 3 .any (Rows.treeFormatsSpec.pre6 enc Tryz.prog Tryz.f3 Rows.treeFormatsRow.domain false) (Rows.treeFormatsSpec.post enc Tryz.prog Tryz.f3 false true false false) := by
  refine returnsInHanded_of_change (C := Tryz.checked) own started (by kernel_rfl) Tryz.func3
    (ChangeSpec.witness6 (enc := enc) (C := Tryz.checked) false ⟨#[], #[.slice none 0 0, .bool false, .int .i16 0], []⟩ 8 (by kernel_rfl) (by kernel_rfl) (by kernel_rfl) (by kernel_rfl)) ?_
  intro W base args ds gs before hval0 hW _ _
  have hval : ∀ (j : Nat) t v, Tryz.f3.params[j]? = some t → args[j]? = some v → Value.okWide Tryz.prog W .any base t v := hval0
  have hW' := hW
  obtain ⟨p, q, hA0, hV, rfl, _, _⟩ := hW
  have hA : DataW.TrodAll enc Tryz.prog W 0 (fun _ => true) true Tryz.f3.params.toList args.toList ds p := hA0
  rw [Tryz.params3] at hA hval
  obtain ⟨v0, vs0, d0, ds0, p0, q0, hargs, rfl, rfl, h0, r0⟩ := trodAll_cons hA
  obtain ⟨v1, vs1, d1, ds1, p1, q1, rfl, rfl, rfl, h1, r1⟩ := trodAll_cons r0
  obtain ⟨v2, vs2, d2, ds2, p2, q2, rfl, rfl, rfl, h2, r2⟩ := trodAll_cons r1
  obtain ⟨rfl, rfl, rfl⟩ := trodAll_nil r2
  obtain rfl : args = #[v0, v1, v2] := by cases args; simp_all
  obtain ⟨rfl, rfl⟩ := trodVars_none hV
  have lt0 : ∀ x ∈ p0, x.block < W.heap.size := by obtain ⟨m, hm⟩ := h0; exact DataW.trod_lt m _ _ _ hm
  obtain ⟨f0, g0⟩ := open_acts (hval 0 22 v0 rfl rfl) h0
  obtain ⟨x1, rfl, rfl, rfl⟩ := open_bool Tryz.underlying4 (hval 1 4 v1 rfl rfl) h1
  obtain ⟨x2, rfl, rfl, rfl, w2⟩ := open_int Tryz.underlying23 (hval 2 23 v2 rfl rfl) h2
  have b2 : -32768 ≤ x2 ∧ x2 ≤ 32767 := by simpa [Lit.wf, IntKind.min, IntKind.max, IntKind.signed, IntKind.bits] using w2
  clear hA0 hval0
  simp only [List.append_nil] at hW'
  refine (law v0 f0 x1 x2 W g0 b2).mono fun e W' ⟨he, bel⟩ => ?_
  subst he
  exact ⟨_, rfl, _, _, _, [], _, [], hW', trodAll_mk1 (shut_bool Tryz.underlying4 _), (trodAll_cons_mk (Below.trod laidOut (by kernel_rfl) (of_decide_eq_true (by kernel_rfl)) h0 bel lt0) (trodAll_cons_mk (shut_bool Tryz.underlying4 _) (trodAll_cons_mk (shut_int Tryz.underlying23 w2) trodAll_mk0))), rfl, bel.frame _, fun h => by cases h⟩

theorem said : Rows.TreeFormatsSaid :=
  OpenClaim.holds_of_wide 3 Tryz.f3 rfl rfl rfl rfl rfl rfl rfl ⟨rfl, rfl, rfl, rfl, rfl⟩ rfl rfl rfl rfl rfl (by kernel_rfl) Tryz.func3 (by kernel_rfl)
    (of_decide_eq_true (by kernel_rfl)) (by unfold Func.isWrapper; first | (rw [if_pos (by decide +kernel)]; kernel_rfl) | (rw [if_neg (by decide +kernel)]; exact ⟨rfl, rfl⟩))
    (fun os started H enc _ => lifted os started H enc)
#print axioms said
end Go.Proofs.YtfakfgmengcndaaGreat.Formats
