/- LinesWithin is true of any bytes and any place: each place is in just the line whose bytes, with its end, are around it. No condition but the card's own: Go's two tables of unicode/utf8 hold what the library's text lays. -/
import Derived.Test.YtjdjacnlobjmgaaDoorArgs
import Derived.Test.YtjdjacnlobjmgaaDoorLnG
import Derived.Test.YtjdjacnlobjmgaaDoorCards
import Derived.Test.YtjdjacnlobjmgaaDoorTie
namespace Go.Proofs.YtjdjacnlobjmgaaDoor.Within
open Go.ChangeShapes Go.WideShapes Go.ChangeAt Go.RowKit Go.Proofs.PlatenGlyph Go.Proofs.PlatenLines
set_option linter.unusedVariables false

set_option maxHeartbeats 400000 in
theorem long (v : Value) (n : Nat) (f : Nat → Nat) (a : Int) (w : World) (hv : IsRow w v n f) (hn : 300 < n) (hT : Lib.Utf8Tabs 1 2 w) :
    Calls Tryd.prog 9 #[v, .int .i64 a] w fun e w' => e = .returned (.bool true) ∧ Below w.heap.size w w' := by
  have cs := rows_any w hT
  have HT := hidden hT
  obtain ⟨ea, cap, rfl⟩ := hv.len
  have hnz : 300 < (n : Int) := by omega
  clear hT hv
  go_enter Tryd.func9, Tryd.ntmps9
  go_wp2_with fail
  refine cs.mono ?_
  rintro e w1 ⟨rfl, hb⟩
  have cs2 := rows_any w1 (tabs_below HT.out hb)
  go_wp2_with fail
  refine cs2.mono ?_
  rintro e w2 ⟨rfl, hb2⟩
  go_wp2
  go_ret
  exact ⟨rfl, hb.trans (hb2.mono hb.size)⟩

theorem within (f : Nat → Nat) (n : Nat) (a : Int) :
    hasW f n (lc f (clamp n a)) (lc f (clamp n a)) = true ∧ (a < 0 → wAt f n (lc f (clamp n a)) (lc f (clamp n a)) = 0) ∧
    ((n : Int) ≤ a → wAt f n (lc f (clamp n a)) (lc f (clamp n a)) + wN f n (lc f (clamp n a)) (lc f (clamp n a)) = n) ∧
    (0 ≤ a → a < n → (wAt f n (lc f (clamp n a)) (lc f (clamp n a)) : Int) ≤ a ∧ a < (wAt f n (lc f (clamp n a)) (lc f (clamp n a)) : Int) + (wN f n (lc f (clamp n a)) (lc f (clamp n a)) : Int)) ∧
    wAt f n (lc f (clamp n a)) (lc f (clamp n a)) + wN f n (lc f (clamp n a)) (lc f (clamp n a)) ≤ n := by
  have hcl := clamp_le n a
  have hcz := clamp_z n a
  obtain ⟨h1, h2, h3⟩ := of_line (f := f) hcl
  generalize hk : lc f (clamp n a) = k at *
  have hh : has f n k = true := has_yes ⟨by omega, by omega⟩
  have hw : hasW f n k k = true := by unfold hasW; rw [Int.min_self, Int.max_self, hh]; rfl
  have eA : wAt f n k k = beg f n k := by unfold wAt; rw [if_pos hw, Int.min_self, sAt_yes h1]
  have eN : wN f n k k = min (fin f n k + 1) n - beg f n k := by
    unfold wN wEnd
    have := beg_le_fin h1
    rw [if_pos hw, Int.min_self, Int.max_self, sAt_yes h1, sN_yes h1, show beg f n k + (fin f n k - beg f n k) = fin f n k by omega]
  have hbf := beg_le_fin h1
  have hfn := fin_le (f := f) (n := n) (k := k)
  rw [eA, eN]
  refine ⟨hw, fun h => ?_, fun h => ?_, fun h h' => ?_, ?_⟩
  · have : clamp n a = 0 := by omega
    rw [this] at hk
    have : k = 0 := by rw [← hk]; rfl
    rw [this]; rfl
  · have : clamp n a = n := by omega
    rw [this] at hk h3
    have e : fin f n k = n := by rw [← hk]; exact fin_last f n
    omega
  · omega
  · omega

set_option maxHeartbeats 1000000 in
theorem short (v : Value) (n : Nat) (f : Nat → Nat) (a : Int) (w : World) (hv : IsRow w v n f) (hn : n ≤ 300) (ha : -9223372036854775808 ≤ a ∧ a ≤ 9223372036854775807) (hT : Lib.Utf8Tabs 1 2 w) :
    Calls Tryd.prog 9 #[v, .int .i64 a] w fun e w' => e = .returned (.bool true) ∧ Below w.heap.size w w' := by
  have cs := rows_any w hT
  have hnz : ¬ (300 < (n : Int)) := by omega
  obtain ⟨t1, t2, t3, t4, t5⟩ := within f n a
  have hll := lc_le f (clamp n a)
  have hcl := clamp_le n a
  have HO : Hid (∀ u, Below w.heap.size w u → Calls Tryd.prog 14 #[v, .int .i64 a] u fun e w' => e = .returned (.int .i64 (lc f (clamp n a) : Nat)) ∧ Below w.heap.size w w') := fun u hu =>
    (of_any v n f a u (by omega) (hv.below hu)).mono fun e w' ⟨he, hb⟩ => ⟨he, hu.trans (hb.mono hu.size)⟩
  have HW : Hid (∀ u, Below w.heap.size w u → Calls Tryd.prog 18 #[v, .int .i64 (lc f (clamp n a) : Nat), .int .i64 (lc f (clamp n a) : Nat)] u fun e w' => e = .returned (.tuple #[.agg #[.int .i64 (wAt f n (lc f (clamp n a)) (lc f (clamp n a)) : Nat), .int .i64 (wN f n (lc f (clamp n a)) (lc f (clamp n a)) : Nat)], .bool true]) ∧ Below w.heap.size w w') := fun u hu => by
    have := whole_any v n f (lc f (clamp n a)) (lc f (clamp n a)) u (by omega) (hv.below hu) (by omega) (by omega)
    rw [t1] at this
    exact this.mono fun e w' ⟨he, hb⟩ => ⟨he, hu.trans (hb.mono hu.size)⟩
  generalize lc f (clamp n a) = k at *
  generalize wAt f n k k = A at *
  generalize wN f n k k = M at *
  obtain ⟨ea, cap, rfl⟩ := hv.len
  clear hT hv t1 hcl hll
  go_enter Tryd.func9, Tryd.ntmps9
  go_wp2_with fail
  refine cs.mono ?_
  rintro e w1 ⟨rfl, hb1⟩
  go_wp2_with fail
  refine (HO.out _ hb1).mono ?_
  rintro e w2 ⟨rfl, hb2⟩
  go_wp2_with fail
  refine (HW.out _ hb2).mono ?_
  rintro e w3 ⟨rfl, hb3⟩
  have HB := hidden (hb3.alloc hb3.size (.cells #[.int .i64 A, .int .i64 M] 32))
  clear hb1 hb2 hb3 HO HW cs
  by_cases h0 : a < 0
  · obtain rfl := t2 h0
    clear t2 t3 t4
    go_wp2
    go_ret
    exact ⟨rfl, HB.out⟩
  · by_cases h1 : a ≥ (n : Int)
    · have t := t3 h1
      have e : ((A : Int) + (M : Int) == (n : Int)) = true := by rw [beq_iff_eq]; omega
      clear t2 t3 t4 t
      go_wp2
      go_ret
      exact ⟨rfl, HB.out⟩
    · obtain ⟨q1, q2⟩ := t4 (by omega) (by omega)
      clear t2 t3 t4
      go_wp2
      go_ret
      exact ⟨rfl, HB.out⟩

theorem law (v : Value) (n : Nat) (f : Nat → Nat) (a : Int) (w : World) (hv : IsRow w v n f) (ha : -9223372036854775808 ≤ a ∧ a ≤ 9223372036854775807) (hT : Lib.Utf8Tabs 1 2 w) :
    Calls Tryd.prog 9 #[v, .int .i64 a] w fun e w' => e = .returned (.bool true) ∧ Below w.heap.size w w' := by
  by_cases hn : 300 < n
  · exact long v n f a w hv hn hT
  · exact short v n f a w hv (by omega) ha hT

set_option maxRecDepth 100000 in
theorem lifted (os : Os) (started : os.Started) (H : Type) (enc : TypeId × Value → H) :
    ReturnsInHanded {} Tryd.checked os 9 .any (fun w args => (Rows.linesWithinSpec.pre enc Tryd.prog Tryd.f9 [] false w args ∧ laidMetH Tryd.prog laid w) ∧ sizedMet enc Tryd.prog Tryd.f9 (OpenSpec.ofChange Rows.linesWithinSpec) false w args)
      (Rows.linesWithinSpec.post enc Tryd.prog Tryd.f9 false true false false) := by
  refine returnsInHanded_of_change_and (C := Tryd.checked) (X := fun w _ => laidMetH Tryd.prog laid w) (fun _ _ _ hh h => h.of_heap hh) own started (by kernel_rfl) Tryd.func9
    (ChangeSpec.witness_shaped (enc := enc) (C := Tryd.checked) (os := os) (X := fun w _ => laidMetH Tryd.prog laid w) false (World.laidAll Tryd.prog os laid) #[.slice none 0 0, .int .i64 0] 8 (World.laidAll_os _ _ _)
      (World.shaped_of_ZipB (by kernel_rfl) (by kernel_rfl)) (by kernel_rfl) (by kernel_rfl) (by kernel_rfl) (laid_world os _)) ?_
  intro W base args ds gs before hval0 hW _ _ hL _
  have hval : ∀ (j : Nat) t v, Tryd.f9.params[j]? = some t → args[j]? = some v → Value.okWide Tryd.prog W .any base t v := hval0
  have hW' := hW
  obtain ⟨p, q, hA0, hV, rfl, _, _⟩ := hW
  have hA : DataW.TrodAll enc Tryd.prog W 0 (fun _ => true) true Tryd.f9.params.toList args.toList ds p := hA0
  rw [Tryd.params9] at hA hval
  obtain ⟨v0, vs0, d0, ds0, p0, q0, hargs, rfl, rfl, h0, r0⟩ := trodAll_cons hA
  obtain ⟨v1, vs1, d1, ds1, p1, q1, rfl, rfl, rfl, h1, r1⟩ := trodAll_cons r0
  obtain ⟨rfl, rfl, rfl⟩ := trodAll_nil r1
  obtain rfl : args = #[v0, v1] := by cases args; simp_all
  obtain ⟨rfl, rfl⟩ := trodVars_none hV
  have lt0 : ∀ x ∈ p0, x.block < W.heap.size := by obtain ⟨m, hm⟩ := h0; exact DataW.trod_lt m _ _ _ hm
  obtain ⟨n0, f0, g0⟩ := open_bytes (hval 0 22 v0 rfl rfl) h0
  obtain ⟨x1, rfl, rfl, rfl, w1⟩ := open_int Tryd.underlying3 (hval 1 3 v1 rfl rfl) h1
  have b1 : -9223372036854775808 ≤ x1 ∧ x1 ≤ 9223372036854775807 := by simpa [Lit.wf, IntKind.min, IntKind.max, IntKind.signed, IntKind.bits] using w1
  clear hA0 hval0
  simp only [List.append_nil] at hW'
  refine (law v0 n0 f0 x1 W g0 b1 (tabs_of_laid hL)).mono fun e W' ⟨he, bel⟩ => ?_
  subst he
  exact ⟨_, rfl, _, _, _, [], _, [], hW', trodAll_mk1 (shut_bool Tryd.underlying4 _), (trodAll_cons_mk (Below.trod laidOut (by kernel_rfl) (of_decide_eq_true (by kernel_rfl)) h0 bel lt0) (trodAll_cons_mk (shut_int Tryd.underlying3 w1) trodAll_mk0)), rfl, bel.frame _, fun h => by cases h⟩

theorem said : Rows.LinesWithinSaid :=
  OpenClaim.holds_of_wide 9 Tryd.f9 rfl rfl rfl rfl rfl rfl rfl ⟨rfl, rfl, rfl, rfl, rfl⟩ rfl rfl rfl rfl rfl (by kernel_rfl) Tryd.func9 (by kernel_rfl)
    (of_decide_eq_true (by kernel_rfl)) (by unfold Func.isWrapper; first | (rw [if_pos (by decide +kernel)]; kernel_rfl) | (rw [if_neg (by decide +kernel)]; exact ⟨rfl, rfl⟩))
    (fun os started H enc _ => lifted os started H enc)

theorem plain (f : FuncId) (fn : Func) (hf : Tryd.pinned.checked.prog.funcNamed Tryd.f9.name = some f) (hfn : Tryd.pinned.checked.prog.funcs[f]? = some fn) :
    false = Tryd.pinned.checked.prog.looks [] ∧ ∀ (j : Nat) t, fn.params[j]? = some t → Tryd.pinned.checked.prog.wantsStandIn t = false := by
  obtain rfl : f = 9 := Option.some.inj ((show Tryd.prog.funcNamed Tryd.f9.name = some 9 by kernel_rfl).symm.trans hf) |>.symm
  obtain rfl : fn = Tryd.f9 := (Option.some.inj (Tryd.func9.symm.trans hfn)).symm
  refine ⟨by kernel_rfl, fun j t ht => ?_⟩
  rw [Tryd.params9] at ht
  have hm : t ∈ [22, 3] := by simpa using Array.mem_of_getElem? ht
  have hall : ([22, 3].all fun u => !Tryd.prog.wantsStandIn u) = true := by kernel_rfl
  exact (show Tryd.prog.wantsStandIn t = false from Bool.not_eq_true' _ |>.mp (List.all_eq_true.1 hall t hm))

theorem card : Rows.LinesWithinCardSaid :=
  Claim7.holds_tied_plain_at .later [] _ _ _ _ said (fun _ h => by cases h) (by kernel_rfl) (fun _ h => by cases h) linesWithin_row_tie rfl ⟨rfl, rfl⟩ (by kernel_rfl) rfl plain (by kernel_rfl)
#print axioms card
end Go.Proofs.YtjdjacnlobjmgaaDoor.Within
