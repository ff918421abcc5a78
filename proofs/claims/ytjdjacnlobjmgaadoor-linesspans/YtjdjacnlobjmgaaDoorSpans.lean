/- LinesSpans is true of any bytes and any number of a line: its bytes are the document's, or it isn't there. No condition but the card's own: Go's two tables of unicode/utf8 hold what the library's text lays. -/
import Derived.Test.YtjdjacnlobjmgaaDoorArgs
import Derived.Test.YtjdjacnlobjmgaaDoorLnL
import Derived.Test.YtjdjacnlobjmgaaDoorCards
import Derived.Test.YtjdjacnlobjmgaaDoorTie
namespace Go.Proofs.YtjdjacnlobjmgaaDoor.Spans
open Go.ChangeShapes Go.WideShapes Go.ChangeAt Go.ChangeMaps Go.RowKit Go.Proofs.PlatenGlyph Go.Proofs.PlatenLines
set_option linter.unusedVariables false

set_option maxHeartbeats 400000 in
theorem long (v : Value) (n : Nat) (f : Nat → Nat) (a : Int) (w : World) (hv : IsRow w v n f) (hn : 300 < n) (hT : Lib.Utf8Tabs 1 2 w) :
    Calls Tryd.prog 4 #[v, .int .i64 a] w fun e w' => e = .returned (.bool true) ∧ Below w.heap.size w w' := by
  have cs := rows_any w hT
  have HT := hidden hT
  obtain ⟨ea, cap, rfl⟩ := hv.len
  have hnz : 300 < (n : Int) := by omega
  clear hv
  clear hT
  go_enter Tryd.func4, Tryd.ntmps4
  go_wp2_with fail
  refine cs.mono ?_
  rintro e w1 ⟨rfl, hb⟩
  have cs2 := rows_any w1 (tabs_below HT.out hb)
  go_wp2_with fail
  refine cs2.mono ?_
  rintro e w2 ⟨rfl, hb2⟩
  go_wp2
  go_ret
  exact ⟨rfl, hb.trans (hb2.mono hb.size)⟩

theorem kept_cell {W w' : World} {p : Addr} {x : Value} (hb : Below W.heap.size W w') (h : W.cell? p = some x) : w'.cell? p = some x := by
  rw [hb.cell (World.block_lt_of_cell? _ _ h)]; exact h
theorem alloc_cell {W : World} {p : Addr} {x : Value} (h : W.cell? p = some x) (o : Obj) : (W.alloc o).cell? p = some x := by
  rw [World.cell?_alloc_old _ _ _ (Nat.ne_of_lt (World.block_lt_of_cell? _ _ h))]; exact h

set_option maxHeartbeats 1000000 in
theorem shortNo (v : Value) (n : Nat) (f : Nat → Nat) (a : Int) (w : World) (hv : IsRow w v n f) (hn : n ≤ 300) (ha : -9223372036854775808 ≤ a ∧ a ≤ 9223372036854775807) (hy : ¬ (0 ≤ a ∧ a ≤ lc f n)) (hT : Lib.Utf8Tabs 1 2 w) :
    Calls Tryd.prog 4 #[v, .int .i64 a] w fun e w' => e = .returned (.bool true) ∧ Below w.heap.size w w' := by
  have cs := rows_any w hT
  have hnz : ¬ (300 < (n : Int)) := by omega
  have H1 : Hid (∀ u, Below w.heap.size w u → Calls Tryd.prog 16 #[v] u fun e w' => ∃ l, e = .returned l ∧ IsSpans u.heap.size w' l f n ∧ Below u.heap.size u w') := fun u hu => spans_any v n f u (by omega) (hv.below hu)
  have H2 : Hid (∀ u, Below w.heap.size w u → Calls Tryd.prog 17 #[v, .int .i64 a] u fun e w' => e = .returned (.tuple #[.agg #[.int .i64 0, .int .i64 0], .bool false]) ∧ Below u.heap.size u w') := fun u hu => span_no v n f a u (by omega) (hv.below hu) ha.2 hy
  have hle := lc_le f n
  obtain ⟨ea, cap, rfl⟩ := hv.len
  clear hT hv
  go_enter Tryd.func4, Tryd.ntmps4
  go_wp2_with fail
  refine cs.mono ?_
  rintro e w1 ⟨rfl, hb1⟩
  have Hb1 := hidden hb1
  clear cs hb1
  go_wp2_with fail
  refine (H1.out _ Hb1.out).mono ?_
  rintro e w2 ⟨l, rfl, ⟨g, gcap, hbg, rfl, hgc, hl⟩, hb2⟩
  have Hb2 := hidden (Hb1.out.trans (hb2.mono Hb1.out.size))
  clear hb2 hl
  go_wp2_with fail
  refine (H2.out _ Hb2.out).mono ?_
  rintro e w3 ⟨rfl, hb3⟩
  have Hb3 := hidden ((Hb2.out.trans (hb3.mono Hb2.out.size)).alloc (Nat.le_trans Hb2.out.size hb3.size) (.cells #[.int .i64 0, .int .i64 0] 32))
  clear hb3 H1 H2
  by_cases hneg : a < 0
  · clear hy
    go_wp2
    go_ret
    exact ⟨rfl, Hb3.out⟩
  · have hov : a ≥ (lc f n : Int) + 1 := by omega
    clear hy
    go_wp2
    go_ret
    exact ⟨rfl, Hb3.out⟩

set_option maxHeartbeats 1000000 in
theorem shortYes (v : Value) (n : Nat) (f : Nat → Nat) (k : Nat) (w : World) (hv : IsRow w v n f) (hn : n ≤ 300) (hk : k ≤ lc f n) (hT : Lib.Utf8Tabs 1 2 w) :
    Calls Tryd.prog 4 #[v, .int .i64 k] w fun e w' => e = .returned (.bool true) ∧ Below w.heap.size w w' := by
  have cs := rows_any w hT
  have hnz : ¬ (300 < (n : Int)) := by omega
  have hle := lc_le f n
  have H1 : Hid (∀ u, Below w.heap.size w u → Calls Tryd.prog 16 #[v] u fun e w' => ∃ l, e = .returned l ∧ IsSpans u.heap.size w' l f n ∧ Below u.heap.size u w') := fun u hu => spans_any v n f u (by omega) (hv.below hu)
  have H2 : Hid (∀ u, Below w.heap.size w u → Calls Tryd.prog 17 #[v, .int .i64 k] u fun e w' => e = .returned (.tuple #[.agg #[.int .i64 (beg f n k : Nat), .int .i64 (fin f n k - beg f n k : Nat)], .bool true]) ∧ Below u.heap.size u w') := fun u hu => by
    have := span_any v n f k u (by omega) (hv.below hu) (by omega)
    rw [sAt_yes hk, sN_yes hk, has_yes ⟨by omega, by omega⟩] at this
    exact this
  obtain ⟨ea, cap, rfl⟩ := hv.len
  have z1 : ¬ ((k : Int) < 0) := by omega
  have z2 : ¬ ((k : Int) ≥ (lc f n : Int) + 1) := by omega
  have z3 : (0 : Int) ≤ (k : Int) := by omega
  have z4 : (k : Int) < (lc f n : Int) + 1 := by omega
  clear hT hv
  go_enter Tryd.func4, Tryd.ntmps4
  go_wp2_with fail
  refine cs.mono ?_
  rintro e w1 ⟨rfl, hb1⟩
  have Hb1 := hidden hb1
  clear cs hb1
  go_wp2_with fail
  refine (H1.out _ Hb1.out).mono ?_
  rintro e w2 ⟨l, rfl, ⟨g, gcap, hbg, rfl, hgc, hl⟩, hb2⟩
  have Hb2 := hidden (Hb1.out.trans (hb2.mono Hb1.out.size))
  obtain ⟨g1, g2⟩ := hl k (by omega)
  clear hb2 hl
  go_wp2_with fail
  refine (H2.out _ Hb2.out).mono ?_
  rintro e w3 ⟨rfl, hb3⟩
  have l1 := alloc_cell (kept_cell hb3 g1) (.cells #[.int .i64 (beg f n k : Nat), .int .i64 (fin f n k - beg f n k : Nat)] 32)
  have l2 := alloc_cell (kept_cell hb3 g2) (.cells #[.int .i64 (beg f n k : Nat), .int .i64 (fin f n k - beg f n k : Nat)] 32)
  have Hb3 := hidden ((Hb2.out.trans (hb3.mono Hb2.out.size)).alloc (Nat.le_trans Hb2.out.size hb3.size) (.cells #[.int .i64 (beg f n k : Nat), .int .i64 (fin f n k - beg f n k : Nat)] 32))
  clear hb3 H1 H2 g1 g2
  generalize fin f n k - beg f n k = M at *
  generalize beg f n k = A at *
  have s1 : (w3.alloc (.cells #[.int .i64 A, .int .i64 M] 32)).cell? ⟨w3.heap.size, 0, none⟩ = some (.int .i64 A) := by simp
  have s2 : (w3.alloc (.cells #[.int .i64 A, .int .i64 M] 32)).cell? ⟨w3.heap.size, 1, none⟩ = some (.int .i64 M) := by simp
  go_wp2_with fail
  go_region_held3 (fun u => (u.cell? ⟨g, k * 2, none⟩ = some (.int .i64 A) ∧ u.cell? ⟨g, k * 2 + 1, none⟩ = some (.int .i64 M)) ∧ u.cell? ⟨w3.heap.size, 0, none⟩ = some (.int .i64 A) ∧ u.cell? ⟨w3.heap.size, 1, none⟩ = some (.int .i64 M)) (first | exact ⟨⟨l1, l2⟩, s1, s2⟩ | go_keep) (fail)
  go_wp2
  go_ret
  exact ⟨rfl, Hb3.out.drew⟩

theorem law (v : Value) (n : Nat) (f : Nat → Nat) (a : Int) (w : World) (hv : IsRow w v n f) (ha : -9223372036854775808 ≤ a ∧ a ≤ 9223372036854775807) (hT : Lib.Utf8Tabs 1 2 w) :
    Calls Tryd.prog 4 #[v, .int .i64 a] w fun e w' => e = .returned (.bool true) ∧ Below w.heap.size w w' := by
  by_cases hn : 300 < n
  · exact long v n f a w hv hn hT
  · by_cases hy : 0 ≤ a ∧ a ≤ lc f n
    · obtain ⟨k, rfl⟩ := Int.eq_ofNat_of_zero_le hy.1
      exact shortYes v n f k w hv (by omega) (by omega) hT
    · exact shortNo v n f a w hv (by omega) ha hy hT

set_option maxRecDepth 100000 in
theorem lifted (os : Os) (started : os.Started) (H : Type) (enc : TypeId × Value → H) :
    ReturnsInHanded {} Tryd.checked os 4 .any (fun w args => (Rows.linesSpansSpec.pre enc Tryd.prog Tryd.f4 [] false w args ∧ laidMetH Tryd.prog laid w) ∧ sizedMet enc Tryd.prog Tryd.f4 (OpenSpec.ofChange Rows.linesSpansSpec) false w args)
      (Rows.linesSpansSpec.post enc Tryd.prog Tryd.f4 false true false false) := by
  refine returnsInHanded_of_change_and (C := Tryd.checked) (X := fun w _ => laidMetH Tryd.prog laid w) (fun _ _ _ hh h => h.of_heap hh) own started (by kernel_rfl) Tryd.func4
    (ChangeSpec.witness_shaped (enc := enc) (C := Tryd.checked) (os := os) (X := fun w _ => laidMetH Tryd.prog laid w) false (World.laidAll Tryd.prog os laid) #[.slice none 0 0, .int .i64 0] 8 (World.laidAll_os _ _ _)
      (World.shaped_of_ZipB (by kernel_rfl) (by kernel_rfl)) (by kernel_rfl) (by kernel_rfl) (by kernel_rfl) (laid_world os _)) ?_
  intro W base args ds gs before hval0 hW _ _ hL _
  have hval : ∀ (j : Nat) t v, Tryd.f4.params[j]? = some t → args[j]? = some v → Value.okWide Tryd.prog W .any base t v := hval0
  have hW' := hW
  obtain ⟨p, q, hA0, hV, rfl, _, _⟩ := hW
  have hA : DataW.TrodAll enc Tryd.prog W 0 (fun _ => true) true Tryd.f4.params.toList args.toList ds p := hA0
  rw [Tryd.params4] at hA hval
  obtain ⟨v0, vs0, d0, ds0, p0, q0, hargs, rfl, rfl, h0, r0⟩ := trodAll_cons hA
  obtain ⟨v1, vs1, d1, ds1, p1, q1, rfl, rfl, rfl, h1, r1⟩ := trodAll_cons r0
  obtain ⟨rfl, rfl, rfl⟩ := trodAll_nil r1
  obtain rfl : args = #[v0, v1] := by cases args; simp_all
  obtain ⟨rfl, rfl⟩ := trodVars_none hV
  have lt0 : ∀ x ∈ p0, x.block < W.heap.size := by obtain ⟨m, hm⟩ := h0; exact DataW.trod_lt m _ _ _ hm
  obtain ⟨n0, f0, g0⟩ := open_bytes (hval 0 22 v0 rfl rfl) h0
  obtain ⟨x1, rfl, rfl, rfl, w1⟩ := open_int Tryd.underlying3 (hval 1 3 v1 rfl rfl) h1
  have b1 : -9223372036854775808 ≤ x1 ∧ x1 ≤ 9223372036854775807 := by simpa [Lit.wf, IntKind.min, IntKind.max, IntKind.signed, IntKind.bits] using w1
  clear hA0 hval0
  simp only [List.append_nil] at hW'
  refine (law v0 n0 f0 x1 W g0 b1 (tabs_of_laid hL)).mono fun e W' ⟨he, bel⟩ => ?_
  subst he
  exact ⟨_, rfl, _, _, _, [], _, [], hW', trodAll_mk1 (shut_bool Tryd.underlying4 _), (trodAll_cons_mk (Below.trod laidOut (by kernel_rfl) (of_decide_eq_true (by kernel_rfl)) h0 bel lt0) (trodAll_cons_mk (shut_int Tryd.underlying3 w1) trodAll_mk0)), rfl, bel.frame _, fun h => by cases h⟩

theorem said : Rows.LinesSpansSaid :=
  OpenClaim.holds_of_wide 4 Tryd.f4 rfl rfl rfl rfl rfl rfl rfl ⟨rfl, rfl, rfl, rfl, rfl⟩ rfl rfl rfl rfl rfl (by kernel_rfl) Tryd.func4 (by kernel_rfl)
    (of_decide_eq_true (by kernel_rfl)) (by unfold Func.isWrapper; first | (rw [if_pos (by decide +kernel)]; kernel_rfl) | (rw [if_neg (by decide +kernel)]; exact ⟨rfl, rfl⟩))
    (fun os started H enc _ => lifted os started H enc)

theorem plain (f : FuncId) (fn : Func) (hf : Tryd.pinned.checked.prog.funcNamed Tryd.f4.name = some f) (hfn : Tryd.pinned.checked.prog.funcs[f]? = some fn) :
    false = Tryd.pinned.checked.prog.looks [] ∧ ∀ (j : Nat) t, fn.params[j]? = some t → Tryd.pinned.checked.prog.wantsStandIn t = false := by
  obtain rfl : f = 4 := Option.some.inj ((show Tryd.prog.funcNamed Tryd.f4.name = some 4 by kernel_rfl).symm.trans hf) |>.symm
  obtain rfl : fn = Tryd.f4 := (Option.some.inj (Tryd.func4.symm.trans hfn)).symm
  refine ⟨by kernel_rfl, fun j t ht => ?_⟩
  rw [Tryd.params4] at ht
  have hm : t ∈ [22, 3] := by simpa using Array.mem_of_getElem? ht
  have hall : ([22, 3].all fun u => !Tryd.prog.wantsStandIn u) = true := by kernel_rfl
  exact (show Tryd.prog.wantsStandIn t = false from Bool.not_eq_true' _ |>.mp (List.all_eq_true.1 hall t hm))

theorem card : Rows.LinesSpansCardSaid :=
  Claim7.holds_tied_plain_at .later [] _ _ _ _ said (fun _ h => by cases h) (by kernel_rfl) (fun _ h => by cases h) linesSpans_row_tie rfl ⟨rfl, rfl⟩ (by kernel_rfl) rfl plain (by kernel_rfl)
#print axioms card
end Go.Proofs.YtjdjacnlobjmgaaDoor.Spans
