/- LinesWholes is true of any bytes and any two numbers of lines: the program's Whole is the document's, in whichever order both are told. No condition but the card's own: Go's two tables of unicode/utf8 hold what the library's text lays. -/
import Derived.Test.YtjdjacnlobjmgaaDoorArgs
import Derived.Test.YtjdjacnlobjmgaaDoorLnL
import Derived.Test.YtjdjacnlobjmgaaDoorCards
import Derived.Test.YtjdjacnlobjmgaaDoorTie
namespace Go.Proofs.YtjdjacnlobjmgaaDoor.Wholes
open Go.ChangeShapes Go.WideShapes Go.ChangeAt Go.ChangeMaps Go.RowKit Go.Proofs.PlatenGlyph Go.Proofs.PlatenLines
set_option linter.unusedVariables false

set_option maxHeartbeats 400000 in
theorem long (v : Value) (n : Nat) (f : Nat → Nat) (a b : Int) (w : World) (hv : IsRow w v n f) (hn : 300 < n) (hT : Lib.Utf8Tabs 1 2 w) :
    Calls Tryd.prog 5 #[v, .int .i64 a, .int .i64 b] w fun e w' => e = .returned (.bool true) ∧ Below w.heap.size w w' := by
  have cs := rows_any w hT
  have HT := hidden hT
  obtain ⟨ea, cap, rfl⟩ := hv.len
  have hnz : 300 < (n : Int) := by omega
  clear hv
  clear hT
  go_enter Tryd.func5, Tryd.ntmps5
  go_wp2_with fail
  refine cs.mono ?_
  rintro e w1 ⟨rfl, hb⟩
  have cs2 := rows_any w1 (tabs_below HT.out hb)
  go_wp2_with fail
  refine cs2.mono ?_
  rintro e w2 ⟨rfl, hb2⟩
  go_wp2
  go_ret
  exact ⟨rfl, hb.trans (hb2.mono hb.size)⟩

theorem kept_cell {W w' : World} {p : Addr} {x : Value} (hb : Below W.heap.size W w') (h : W.cell? p = some x) : w'.cell? p = some x := by
  rw [hb.cell (World.block_lt_of_cell? _ _ h)]; exact h
theorem alloc_cell {W : World} {p : Addr} {x : Value} (h : W.cell? p = some x) (o : Obj) : (W.alloc o).cell? p = some x := by
  rw [World.cell?_alloc_old _ _ _ (Nat.ne_of_lt (World.block_lt_of_cell? _ _ h))]; exact h
theorem hasW_comm (f : Nat → Nat) (n : Nat) (a b : Int) : hasW f n b a = hasW f n a b := by unfold hasW; rw [Int.min_comm, Int.max_comm]
theorem wAt_comm (f : Nat → Nat) (n : Nat) (a b : Int) : wAt f n b a = wAt f n a b := by unfold wAt; rw [hasW_comm, Int.min_comm]
theorem wN_comm (f : Nat → Nat) (n : Nat) (a b : Int) : wN f n b a = wN f n a b := by unfold wN; rw [hasW_comm, Int.min_comm, Int.max_comm]

set_option maxHeartbeats 1000000 in
theorem short (v : Value) (n : Nat) (f : Nat → Nat) (a b : Int) (w : World) (hv : IsRow w v n f) (hn : n ≤ 300) (ha : -9223372036854775808 ≤ a ∧ a ≤ 9223372036854775807) (hb : -9223372036854775808 ≤ b ∧ b ≤ 9223372036854775807) (hT : Lib.Utf8Tabs 1 2 w) :
    Calls Tryd.prog 5 #[v, .int .i64 a, .int .i64 b] w fun e w' => e = .returned (.bool true) ∧ Below w.heap.size w w' := by
  have cs := rows_any w hT
  have hnz : ¬ (300 < (n : Int)) := by omega
  have C1 : ∀ u, Below w.heap.size w u → Calls Tryd.prog 18 #[v, .int .i64 a, .int .i64 b] u fun e w' => e = .returned (.tuple #[.agg #[.int .i64 (wAt f n a b : Nat), .int .i64 (wN f n a b : Nat)], .bool (hasW f n a b)]) ∧ Below u.heap.size u w' := fun u hu =>
    whole_any v n f a b u (by omega) (hv.below hu) ha.2 hb.2
  have C2 : ∀ u, Below w.heap.size w u → Calls Tryd.prog 19 #[v, .int .i64 a, .int .i64 b] u fun e w' => e = .returned (.tuple #[.agg #[.int .i64 (wAt f n a b : Nat), .int .i64 (wN f n a b : Nat)], .bool (hasW f n a b)]) ∧ Below u.heap.size u w' := fun u hu =>
    rwhole_any v n f a b u (by omega) (hv.below hu)
  have C3 : ∀ u, Below w.heap.size w u → Calls Tryd.prog 18 #[v, .int .i64 b, .int .i64 a] u fun e w' => e = .returned (.tuple #[.agg #[.int .i64 (wAt f n a b : Nat), .int .i64 (wN f n a b : Nat)], .bool (hasW f n a b)]) ∧ Below u.heap.size u w' := fun u hu => by
    have := whole_any v n f b a u (by omega) (hv.below hu) hb.2 ha.2
    rw [wAt_comm, wN_comm, hasW_comm] at this
    exact this
  have H1 := hidden C1
  have H2 := hidden C2
  have H3 := hidden C3
  obtain ⟨ea, cap, rfl⟩ := hv.len
  clear hT hv C1 C2 C3
  generalize wAt f n a b = A at *
  generalize wN f n a b = M at *
  generalize hasW f n a b = B at *
  go_enter Tryd.func5, Tryd.ntmps5
  go_wp2_with fail
  refine cs.mono ?_
  rintro e w1 ⟨rfl, hb1⟩
  have Hb1 := hidden hb1
  clear cs hb1
  go_wp2_with fail
  refine (H1.out _ Hb1.out).mono ?_
  rintro e w2 ⟨rfl, hb2⟩
  have Hb2 := hidden ((Hb1.out.trans (hb2.mono Hb1.out.size)).alloc (Nat.le_trans Hb1.out.size hb2.size) (.cells #[.int .i64 A, .int .i64 M] 32))
  clear hb2
  go_wp2_with fail
  refine (H2.out _ Hb2.out).mono ?_
  rintro e w3 ⟨rfl, hb3⟩
  have s0 : w3.cell? ⟨w2.heap.size, 0, none⟩ = some (.int .i64 A) := kept_cell hb3 (by simp)
  have s1 : w3.cell? ⟨w2.heap.size, 1, none⟩ = some (.int .i64 M) := kept_cell hb3 (by simp)
  have Hb3 := hidden ((Hb2.out.trans (hb3.mono Hb2.out.size)).alloc (Nat.le_trans Hb2.out.size hb3.size) (.cells #[.int .i64 A, .int .i64 M] 32))
  clear hb3
  have q0 := alloc_cell s0 (.cells #[.int .i64 A, .int .i64 M] 32)
  have q1 := alloc_cell s1 (.cells #[.int .i64 A, .int .i64 M] 32)
  go_wp2_with fail
  refine (H3.out _ Hb3.out).mono ?_
  rintro e w4 ⟨rfl, hb4⟩
  have s2 := alloc_cell (kept_cell hb4 q0) (.cells #[.int .i64 A, .int .i64 M] 32)
  have s3 := alloc_cell (kept_cell hb4 q1) (.cells #[.int .i64 A, .int .i64 M] 32)
  have t0 := alloc_cell (kept_cell hb4 (p := ⟨w3.heap.size, 0, none⟩) (x := .int .i64 A) (by simp)) (.cells #[.int .i64 A, .int .i64 M] 32)
  have t1 := alloc_cell (kept_cell hb4 (p := ⟨w3.heap.size, 1, none⟩) (x := .int .i64 M) (by simp)) (.cells #[.int .i64 A, .int .i64 M] 32)
  have Hb4 := hidden ((Hb3.out.trans (hb4.mono Hb3.out.size)).alloc (Nat.le_trans Hb3.out.size hb4.size) (.cells #[.int .i64 A, .int .i64 M] 32))
  clear hb4 s0 s1 q0 q1
  go_wp2
  go_ret
  exact ⟨rfl, Hb4.out⟩

theorem law (v : Value) (n : Nat) (f : Nat → Nat) (a b : Int) (w : World) (hv : IsRow w v n f) (ha : -9223372036854775808 ≤ a ∧ a ≤ 9223372036854775807) (hb : -9223372036854775808 ≤ b ∧ b ≤ 9223372036854775807) (hT : Lib.Utf8Tabs 1 2 w) :
    Calls Tryd.prog 5 #[v, .int .i64 a, .int .i64 b] w fun e w' => e = .returned (.bool true) ∧ Below w.heap.size w w' := by
  by_cases hn : 300 < n
  · exact long v n f a b w hv hn hT
  · exact short v n f a b w hv (by omega) ha hb hT

set_option maxRecDepth 100000 in
theorem lifted (os : Os) (started : os.Started) (H : Type) (enc : TypeId × Value → H) :
    ReturnsInHanded {} Tryd.checked os 5 .any (fun w args => (Rows.linesWholesSpec.pre enc Tryd.prog Tryd.f5 [] false w args ∧ laidMetH Tryd.prog laid w) ∧ sizedMet enc Tryd.prog Tryd.f5 (OpenSpec.ofChange Rows.linesWholesSpec) false w args)
      (Rows.linesWholesSpec.post enc Tryd.prog Tryd.f5 false true false false) := by
  refine returnsInHanded_of_change_and (C := Tryd.checked) (X := fun w _ => laidMetH Tryd.prog laid w) (fun _ _ _ hh h => h.of_heap hh) own started (by kernel_rfl) Tryd.func5
    (ChangeSpec.witness_shaped (enc := enc) (C := Tryd.checked) (os := os) (X := fun w _ => laidMetH Tryd.prog laid w) false (World.laidAll Tryd.prog os laid) #[.slice none 0 0, .int .i64 0, .int .i64 0] 8 (World.laidAll_os _ _ _)
      (World.shaped_of_ZipB (by kernel_rfl) (by kernel_rfl)) (by kernel_rfl) (by kernel_rfl) (by kernel_rfl) (laid_world os _)) ?_
  intro W base args ds gs before hval0 hW _ _ hL _
  have hval : ∀ (j : Nat) t v, Tryd.f5.params[j]? = some t → args[j]? = some v → Value.okWide Tryd.prog W .any base t v := hval0
  have hW' := hW
  obtain ⟨p, q, hA0, hV, rfl, _, _⟩ := hW
  have hA : DataW.TrodAll enc Tryd.prog W 0 (fun _ => true) true Tryd.f5.params.toList args.toList ds p := hA0
  rw [Tryd.params5] at hA hval
  obtain ⟨v0, vs0, d0, ds0, p0, q0, hargs, rfl, rfl, h0, r0⟩ := trodAll_cons hA
  obtain ⟨v1, vs1, d1, ds1, p1, q1, rfl, rfl, rfl, h1, r1⟩ := trodAll_cons r0
  obtain ⟨v2, vs2, d2, ds2, p2, q2, rfl, rfl, rfl, h2, r2⟩ := trodAll_cons r1
  obtain ⟨rfl, rfl, rfl⟩ := trodAll_nil r2
  obtain rfl : args = #[v0, v1, v2] := by cases args; simp_all
  obtain ⟨rfl, rfl⟩ := trodVars_none hV
  have lt0 : ∀ x ∈ p0, x.block < W.heap.size := by obtain ⟨m, hm⟩ := h0; exact DataW.trod_lt m _ _ _ hm
  obtain ⟨n0, f0, g0⟩ := open_bytes (hval 0 22 v0 rfl rfl) h0
  obtain ⟨x1, rfl, rfl, rfl, w1⟩ := open_int Tryd.underlying3 (hval 1 3 v1 rfl rfl) h1
  have b1 : -9223372036854775808 ≤ x1 ∧ x1 ≤ 9223372036854775807 := by simpa [Lit.wf, IntKind.min, IntKind.max, IntKind.signed, IntKind.bits] using w1
  obtain ⟨x2, rfl, rfl, rfl, w2⟩ := open_int Tryd.underlying3 (hval 2 3 v2 rfl rfl) h2
  have b2 : -9223372036854775808 ≤ x2 ∧ x2 ≤ 9223372036854775807 := by simpa [Lit.wf, IntKind.min, IntKind.max, IntKind.signed, IntKind.bits] using w2
  clear hA0 hval0
  simp only [List.append_nil] at hW'
  refine (law v0 n0 f0 x1 x2 W g0 b1 b2 (tabs_of_laid hL)).mono fun e W' ⟨he, bel⟩ => ?_
  subst he
  exact ⟨_, rfl, _, _, _, [], _, [], hW', trodAll_mk1 (shut_bool Tryd.underlying4 _), (trodAll_cons_mk (Below.trod laidOut (by kernel_rfl) (of_decide_eq_true (by kernel_rfl)) h0 bel lt0) (trodAll_cons_mk (shut_int Tryd.underlying3 w1) (trodAll_cons_mk (shut_int Tryd.underlying3 w2) trodAll_mk0))), rfl, bel.frame _, fun h => by cases h⟩

theorem said : Rows.LinesWholesSaid :=
  OpenClaim.holds_of_wide 5 Tryd.f5 rfl rfl rfl rfl rfl rfl rfl ⟨rfl, rfl, rfl, rfl, rfl⟩ rfl rfl rfl rfl rfl (by kernel_rfl) Tryd.func5 (by kernel_rfl)
    (of_decide_eq_true (by kernel_rfl)) (by unfold Func.isWrapper; first | (rw [if_pos (by decide +kernel)]; kernel_rfl) | (rw [if_neg (by decide +kernel)]; exact ⟨rfl, rfl⟩))
    (fun os started H enc _ => lifted os started H enc)

theorem plain (f : FuncId) (fn : Func) (hf : Tryd.pinned.checked.prog.funcNamed Tryd.f5.name = some f) (hfn : Tryd.pinned.checked.prog.funcs[f]? = some fn) :
    false = Tryd.pinned.checked.prog.looks [] ∧ ∀ (j : Nat) t, fn.params[j]? = some t → Tryd.pinned.checked.prog.wantsStandIn t = false := by
  obtain rfl : f = 5 := Option.some.inj ((show Tryd.prog.funcNamed Tryd.f5.name = some 5 by kernel_rfl).symm.trans hf) |>.symm
  obtain rfl : fn = Tryd.f5 := (Option.some.inj (Tryd.func5.symm.trans hfn)).symm
  refine ⟨by kernel_rfl, fun j t ht => ?_⟩
  rw [Tryd.params5] at ht
  have hm : t ∈ [22, 3, 3] := by simpa using Array.mem_of_getElem? ht
  have hall : ([22, 3, 3].all fun u => !Tryd.prog.wantsStandIn u) = true := by kernel_rfl
  exact (show Tryd.prog.wantsStandIn t = false from Bool.not_eq_true' _ |>.mp (List.all_eq_true.1 hall t hm))

theorem card : Rows.LinesWholesCardSaid :=
  Claim7.holds_tied_plain_at .later [] _ _ _ _ said (fun _ h => by cases h) (by kernel_rfl) (fun _ h => by cases h) linesWholes_row_tie rfl ⟨rfl, rfl⟩ (by kernel_rfl) rfl plain (by kernel_rfl)
#print axioms card
end Go.Proofs.YtjdjacnlobjmgaaDoor.Wholes
