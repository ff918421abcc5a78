/- LinesGoOn is true of any two texts and any place: with a line end between they have both their lines. No condition but the card's own: Go's two tables of unicode/utf8 hold what the library's text lays. -/
import Derived.Test.YtjdjacnlobjmgaaDoorArgs
import Derived.Test.YtjdjacnlobjmgaaDoorLnO
import Derived.Test.YtjdjacnlobjmgaaDoorCards
import Derived.Test.YtjdjacnlobjmgaaDoorTie
namespace Go.Proofs.YtjdjacnlobjmgaaDoor.GoOn
open Go.ChangeShapes Go.WideShapes Go.ChangeAt Go.ChangeMaps Go.RowKit Go.Proofs.PlatenGlyph Go.Proofs.PlatenLines
set_option linter.unusedVariables false

set_option maxHeartbeats 400000 in
theorem long (v v2 : Value) (n m : Nat) (f g : Nat → Nat) (c : Nat) (w : World) (hv : IsRow w v n f) (hv2 : IsRow w v2 m g) (hn : 200 < n) (hT : Lib.Utf8Tabs 1 2 w) :
    Calls Tryd.prog 10 #[v, v2, .int .u16 c] w fun e w' => e = .returned (.bool true) ∧ Below w.heap.size w w' := by
  have cs := rows_any w hT
  have HT := hidden hT
  obtain ⟨ea, cap, rfl⟩ := hv.len
  obtain ⟨eb, cap2, rfl⟩ := hv2.len
  have hnz : 200 < (n : Int) := by omega
  clear hv hv2
  clear hT
  go_enter Tryd.func10, Tryd.ntmps10
  go_wp2_with fail
  refine cs.mono ?_
  rintro e w1 ⟨rfl, hb⟩
  have cs2 := rows_any w1 (tabs_below HT.out hb)
  go_wp2_with fail
  refine cs2.mono ?_
  rintro e w2 ⟨rfl, hb2⟩
  go_wp2
  go_ret
  exact ⟨rfl, hb.trans (hb2.mono hb.size)⟩

set_option maxHeartbeats 400000 in
theorem long2 (v v2 : Value) (n m : Nat) (f g : Nat → Nat) (c : Nat) (w : World) (hv : IsRow w v n f) (hv2 : IsRow w v2 m g) (hn : n ≤ 200) (hm : 200 < m) (hT : Lib.Utf8Tabs 1 2 w) :
    Calls Tryd.prog 10 #[v, v2, .int .u16 c] w fun e w' => e = .returned (.bool true) ∧ Below w.heap.size w w' := by
  have cs := rows_any w hT
  have HT := hidden hT
  obtain ⟨ea, cap, rfl⟩ := hv.len
  obtain ⟨eb, cap2, rfl⟩ := hv2.len
  have hnz : ¬ (200 < (n : Int)) := by omega
  have hmz : 200 < (m : Int) := by omega
  clear hv hv2
  clear hT
  go_enter Tryd.func10, Tryd.ntmps10
  go_wp2_with fail
  refine cs.mono ?_
  rintro e w1 ⟨rfl, hb⟩
  have cs2 := rows_any w1 (tabs_below HT.out hb)
  go_wp2_with fail
  refine cs2.mono ?_
  rintro e w2 ⟨rfl, hb2⟩
  go_wp2
  go_ret
  exact ⟨rfl, hb.trans (hb2.mono hb.size)⟩

set_option maxHeartbeats 2000000 in
theorem short (v v2 : Value) (n m : Nat) (f g : Nat → Nat) (c : Nat) (w : World) (hv : IsRow w v n f) (hv2 : IsRow w v2 m g) (hn : n ≤ 200) (hm : m ≤ 200) (hc : c < 65536) (hT : Lib.Utf8Tabs 1 2 w) :
    Calls Tryd.prog 10 #[v, v2, .int .u16 c] w fun e w' => e = .returned (.bool true) ∧ Below w.heap.size w w' := by
  have cs := rows_any w hT
  have hnz : ¬ (200 < (n : Int)) := by omega
  have hmz : ¬ (200 < (m : Int)) := by omega
  have hm0 := Int.emod_nonneg (c : Int) (show ((m : Int) + 1) ≠ 0 by omega)
  have hm1 := Int.emod_lt_of_pos (c : Int) (show (0 : Int) < (m : Int) + 1 by omega)
  obtain ⟨k, hk⟩ : ∃ k : Nat, (c : Int) % ((m : Int) + 1) = k := ⟨((c : Int) % ((m : Int) + 1)).toNat, by omega⟩
  rw [hk] at hm0 hm1
  have hkm : k ≤ m := by omega
  have hwr : IntKind.i64.wrap (c : Int) = (c : Int) := IntWalk.i64_in _ (by omega)
  have J1 : Hid (∀ u, Below w.heap.size w u → Calls Tryd.prog 27 #[v, .slice (some ⟨u.heap.size, 0, none⟩) 1 1] (u.alloc (.cells #[.int .u8 10] 5)) fun e w' => ∃ x, e = .returned x ∧ Laid (u.alloc (.cells #[.int .u8 10] 5)) w' x (listOf f n ++ [10])) := fun u hu =>
    join1 v n f u (by omega) (hv.below hu)
  have hB := both_of f g n m
  have hlen := both_len f g n m
  have hmem1 : ∀ c, c ∈ listOf f n ++ [10] → c < 256 := by
    intro c hc
    rcases List.mem_append.1 hc with h | h
    · exact listOf_mem hv.1 n c h
    · obtain rfl : c = 10 := by simpa using h
      decide
  have hlen1 : (listOf f n ++ [10]).length = n + 1 := by simp [listOf_len]
  have hmem2 : ∀ c, c ∈ (listOf f n ++ [10]) ++ listOf g m → c < 256 := by
    intro c hc
    rcases List.mem_append.1 hc with h | h
    · exact hmem1 c h
    · exact listOf_mem hv2.1 m c h
  have J2 : Hid (∀ u base x, Below w.heap.size w u → u.ownsRow base 5 1 x (listOf f n ++ [10]).length (bytesV (listOf f n ++ [10])) → Calls Tryd.prog 27 #[x, v2] u fun e w' => ∃ y, e = .returned y ∧ IsRow w' y (n + 1 + m) (fun j => ((listOf f n ++ [10]) ++ listOf g m).getD j 0) ∧ Below u.heap.size u w') := fun u base x hu hown =>
    (join2 x v2 (listOf f n ++ [10]) m g base u hmem1 (by omega) (by omega) hown (hv2.below hu)).mono fun e w' ⟨y, he, hl⟩ => ⟨y, he, by
      have := isRow_own hmem2 (by omega) hl.1
      rw [hlen] at this
      exact this, hl.2⟩
  generalize (fun j => ((listOf f n ++ [10]) ++ listOf g m).getD j 0) = F at *
  have e1 := hB.lc (Nat.le_refl m)
  have e2 := hB.lc hkm
  have e3 := hB.col (T := 8) hkm
  have b1 := lc_le f n
  have b2 := lc_le g m
  have b3 := lc_le g k
  have cN : clamp (n + 1 + m) ((n : Int) + 1 + (k : Int)) = n + 1 + k := by rw [show ((n : Int) + 1 + (k : Int)) = ((n + 1 + k : Nat) : Int) by omega]; exact clamp_nat (by omega)
  have H1 : Hid (∀ u y, IsRow u y (n + 1 + m) F → Calls Tryd.prog 12 #[y] u fun e w' => e = .returned (.int .i64 (lc f n + 1 + lc g m + 1 : Nat)) ∧ Below u.heap.size u w') := fun u y hy => by
    have := count_any y (n + 1 + m) F u (by omega) hy
    rw [e1] at this
    exact this
  have H2 : Hid (∀ u, Below w.heap.size w u → Calls Tryd.prog 12 #[v] u fun e w' => e = .returned (.int .i64 (lc f n + 1 : Nat)) ∧ Below u.heap.size u w') := fun u hu => count_any v n f u (by omega) (hv.below hu)
  have H3 : Hid (∀ u, Below w.heap.size w u → Calls Tryd.prog 12 #[v2] u fun e w' => e = .returned (.int .i64 (lc g m + 1 : Nat)) ∧ Below u.heap.size u w') := fun u hu => count_any v2 m g u (by omega) (hv2.below hu)
  have H4 : Hid (∀ u y, IsRow u y (n + 1 + m) F → Calls Tryd.prog 14 #[y, .int .i64 ((n : Int) + 1 + (k : Int))] u fun e w' => e = .returned (.int .i64 (lc f n + 1 + lc g k : Nat)) ∧ Below u.heap.size u w') := fun u y hy => by
    have := of_any y (n + 1 + m) F ((n : Int) + 1 + (k : Int)) u (by omega) hy
    rw [cN, e2] at this
    exact this
  have H5 : Hid (∀ u, Below w.heap.size w u → Calls Tryd.prog 14 #[v2, .int .i64 k] u fun e w' => e = .returned (.int .i64 (lc g k : Nat)) ∧ Below u.heap.size u w') := fun u hu => by
    have := of_any v2 m g k u (by omega) (hv2.below hu)
    rw [clamp_nat hkm] at this
    exact this
  have H6 : Hid (∀ u y, Below w.heap.size w u → IsRow u y (n + 1 + m) F → Calls Tryd.prog 25 #[y, .int .i64 ((n : Int) + 1 + (k : Int)), .int .i64 8] u fun e w' => e = .returned (.int .i64 (colAt g m k 8 : Nat)) ∧ Below u.heap.size u w') := fun u y hu hy => by
    have := column_any y (n + 1 + m) F ((n : Int) + 1 + (k : Int)) 8 8 u (by omega) hy (by omega) (by omega) (tabs_below hT hu)
    rw [show ((n : Int) + 1 + (k : Int)) = ((n + 1 + k : Nat) : Int) by omega, e3] at this
    rw [show ((n : Int) + 1 + (k : Int)) = ((n + 1 + k : Nat) : Int) by omega]
    exact this
  have H7 : Hid (∀ u, Below w.heap.size w u → Calls Tryd.prog 26 #[v2, .int .i64 k, .int .i64 8] u fun e w' => e = .returned (.int .i64 (colAt g m k 8 : Nat)) ∧ Below u.heap.size u w') := fun u hu =>
    rcolumn_any v2 m g k 8 8 u (by omega) (hv2.below hu) (by omega) (by omega)
  have hlv := hv.len
  have hlv2 := hv2.len
  obtain ⟨ea, cap, rfl⟩ := hlv
  obtain ⟨eb, cap2, rfl⟩ := hlv2
  clear hT hv hv2 hB e1 e2 e3 cN hlen hlen1 hmem1 hmem2
  generalize colAt g m k 8 = C at *
  generalize lc f n = p1 at *
  generalize lc g m = p2 at *
  generalize lc g k = p3 at *
  have t1 : (((p1 + 1 + p2 + 1 : Nat) : Int) == ((p1 + 1 : Nat) : Int) + ((p2 + 1 : Nat) : Int)) = true := by rw [beq_iff_eq]; omega
  have t2 : (((p1 + 1 + p3 : Nat) : Int) == ((p1 + 1 : Nat) : Int) + (p3 : Int)) = true := by rw [beq_iff_eq]; omega
  go_enter Tryd.func10, Tryd.ntmps10
  go_wp2_with fail
  refine cs.mono ?_
  rintro e w1 ⟨rfl, hb1⟩
  have Hb1 := hidden hb1
  clear cs hb1
  go_wp2_with fail
  refine (J1.out _ Hb1.out).mono ?_
  rintro e w2 ⟨x, rfl, hx, hb2⟩
  have Hb2 := hidden ((Hb1.out.alloc Hb1.out.size (.cells #[.int .u8 10] 5)).trans (hb2.mono (by have := Hb1.out.size; simp; omega)))
  have Hx := hidden hx
  clear hb2 hx
  go_wp2_with fail
  refine (J2.out _ _ _ Hb2.out Hx.out).mono ?_
  rintro e w3 ⟨y, rfl, hy, hb3⟩
  have Hb3 := hidden (Hb2.out.trans (hb3.mono Hb2.out.size))
  have Hy := hidden hy
  clear hb3 hy Hx J1 J2
  go_wp2_with fail
  refine (H1.out _ _ Hy.out).mono ?_
  rintro e w4 ⟨rfl, hb4⟩
  have Hb4 := hidden (Hb3.out.trans (hb4.mono Hb3.out.size))
  have Hy4 := hidden (Hy.out.below hb4)
  clear hb4 Hy
  go_wp2_with fail
  refine (H2.out _ Hb4.out).mono ?_
  rintro e w5 ⟨rfl, hb5⟩
  have Hb5 := hidden (Hb4.out.trans (hb5.mono Hb4.out.size))
  have Hy5 := hidden (Hy4.out.below hb5)
  clear hb5 Hy4
  go_wp2_with fail
  refine (H3.out _ Hb5.out).mono ?_
  rintro e w6 ⟨rfl, hb6⟩
  have Hb6 := hidden (Hb5.out.trans (hb6.mono Hb5.out.size))
  have Hy6 := hidden (Hy5.out.below hb6)
  clear hb6 Hy5
  go_wp2_with fail
  refine (H4.out _ _ Hy6.out).mono ?_
  rintro e w7 ⟨rfl, hb7⟩
  have Hb7 := hidden (Hb6.out.trans (hb7.mono Hb6.out.size))
  have Hy7 := hidden (Hy6.out.below hb7)
  clear hb7 Hy6
  go_wp2_with fail
  refine (H2.out _ Hb7.out).mono ?_
  rintro e w8 ⟨rfl, hb8⟩
  have Hb8 := hidden (Hb7.out.trans (hb8.mono Hb7.out.size))
  have Hy8 := hidden (Hy7.out.below hb8)
  clear hb8 Hy7
  go_wp2_with fail
  refine (H5.out _ Hb8.out).mono ?_
  rintro e w9 ⟨rfl, hb9⟩
  have Hb9 := hidden (Hb8.out.trans (hb9.mono Hb8.out.size))
  have Hy9 := hidden (Hy8.out.below hb9)
  clear hb9 Hy8
  go_wp2_with fail
  refine (H6.out _ _ Hb9.out Hy9.out).mono ?_
  rintro e w10 ⟨rfl, hb10⟩
  have Hb10 := hidden (Hb9.out.trans (hb10.mono Hb9.out.size))
  clear hb10 Hy9
  go_wp2_with fail
  refine (H7.out _ Hb10.out).mono ?_
  rintro e w11 ⟨rfl, hb11⟩
  have Hb11 := hidden (Hb10.out.trans (hb11.mono Hb10.out.size))
  clear hb11
  go_wp2
  go_ret
  exact ⟨rfl, Hb11.out⟩

theorem law (v : Value) (n : Nat) (f : Nat → Nat) (v2 : Value) (m : Nat) (g : Nat → Nat) (c : Nat) (w : World) (hv : IsRow w v n f) (hv2 : IsRow w v2 m g) (hc : c < 65536) (hT : Lib.Utf8Tabs 1 2 w) :
    Calls Tryd.prog 10 #[v, v2, .int .u16 c] w fun e w' => e = .returned (.bool true) ∧ Below w.heap.size w w' := by
  by_cases hn : 200 < n
  · exact long v v2 n m f g c w hv hv2 hn hT
  · by_cases hm : 200 < m
    · exact long2 v v2 n m f g c w hv hv2 (by omega) hm hT
    · exact short v v2 n m f g c w hv hv2 (by omega) (by omega) hc hT

set_option maxRecDepth 100000 in
theorem lifted (os : Os) (started : os.Started) (H : Type) (enc : TypeId × Value → H) :
    ReturnsInHanded {} Tryd.checked os 10 .any (fun w args => (Rows.linesGoOnSpec.pre enc Tryd.prog Tryd.f10 [] false w args ∧ laidMetH Tryd.prog laid w) ∧ sizedMet enc Tryd.prog Tryd.f10 (OpenSpec.ofChange Rows.linesGoOnSpec) false w args)
      (Rows.linesGoOnSpec.post enc Tryd.prog Tryd.f10 false true false false) := by
  refine returnsInHanded_of_change_and (C := Tryd.checked) (X := fun w _ => laidMetH Tryd.prog laid w) (fun _ _ _ hh h => h.of_heap hh) own started (by kernel_rfl) Tryd.func10
    (ChangeSpec.witness_shaped (enc := enc) (C := Tryd.checked) (os := os) (X := fun w _ => laidMetH Tryd.prog laid w) false (World.laidAll Tryd.prog os laid) #[.slice none 0 0, .slice none 0 0, .int .u16 0] 8 (World.laidAll_os _ _ _)
      (World.shaped_of_ZipB (by kernel_rfl) (by kernel_rfl)) (by kernel_rfl) (by kernel_rfl) (by kernel_rfl) (laid_world os _)) ?_
  intro W base args ds gs before hval0 hW _ _ hL _
  have hval : ∀ (j : Nat) t v, Tryd.f10.params[j]? = some t → args[j]? = some v → Value.okWide Tryd.prog W .any base t v := hval0
  have hW' := hW
  obtain ⟨p, q, hA0, hV, rfl, _, _⟩ := hW
  have hA : DataW.TrodAll enc Tryd.prog W 0 (fun _ => true) true Tryd.f10.params.toList args.toList ds p := hA0
  rw [Tryd.params10] at hA hval
  obtain ⟨v0, vs0, d0, ds0, p0, q0, hargs, rfl, rfl, h0, r0⟩ := trodAll_cons hA
  obtain ⟨v1, vs1, d1, ds1, p1, q1, rfl, rfl, rfl, h1, r1⟩ := trodAll_cons r0
  obtain ⟨v2, vs2, d2, ds2, p2, q2, rfl, rfl, rfl, h2, r2⟩ := trodAll_cons r1
  obtain ⟨rfl, rfl, rfl⟩ := trodAll_nil r2
  obtain rfl : args = #[v0, v1, v2] := by cases args; simp_all
  obtain ⟨rfl, rfl⟩ := trodVars_none hV
  have lt0 : ∀ x ∈ p0, x.block < W.heap.size := by obtain ⟨m, hm⟩ := h0; exact DataW.trod_lt m _ _ _ hm
  obtain ⟨n0, f0, g0⟩ := open_bytes (hval 0 22 v0 rfl rfl) h0
  have lt1 : ∀ x ∈ p1, x.block < W.heap.size := by obtain ⟨m, hm⟩ := h1; exact DataW.trod_lt m _ _ _ hm
  obtain ⟨n1, f1, g1⟩ := open_bytes (hval 1 22 v1 rfl rfl) h1
  obtain ⟨x2, rfl, rfl, rfl, w2⟩ := open_int Tryd.underlying46 (hval 2 46 v2 rfl rfl) h2
  have b2 : 0 ≤ x2 ∧ x2 ≤ 65535 := by simpa [Lit.wf, IntKind.min, IntKind.max, IntKind.signed, IntKind.bits] using w2
  obtain ⟨c2, rfl⟩ := Int.eq_ofNat_of_zero_le b2.1
  clear hA0 hval0
  simp only [List.append_nil] at hW'
  refine (law v0 n0 f0 v1 n1 f1 c2 W g0 g1 (by omega) (tabs_of_laid hL)).mono fun e W' ⟨he, bel⟩ => ?_
  subst he
  exact ⟨_, rfl, _, _, _, [], _, [], hW', trodAll_mk1 (shut_bool Tryd.underlying4 _), (trodAll_cons_mk (Below.trod laidOut (by kernel_rfl) (of_decide_eq_true (by kernel_rfl)) h0 bel lt0) (trodAll_cons_mk (Below.trod laidOut (by kernel_rfl) (of_decide_eq_true (by kernel_rfl)) h1 bel lt1) (trodAll_cons_mk (shut_int Tryd.underlying46 w2) trodAll_mk0))), rfl, bel.frame _, fun h => by cases h⟩

theorem said : Rows.LinesGoOnSaid :=
  OpenClaim.holds_of_wide 10 Tryd.f10 rfl rfl rfl rfl rfl rfl rfl ⟨rfl, rfl, rfl, rfl, rfl⟩ rfl rfl rfl rfl rfl (by kernel_rfl) Tryd.func10 (by kernel_rfl)
    (of_decide_eq_true (by kernel_rfl)) (by unfold Func.isWrapper; first | (rw [if_pos (by decide +kernel)]; kernel_rfl) | (rw [if_neg (by decide +kernel)]; exact ⟨rfl, rfl⟩))
    (fun os started H enc _ => lifted os started H enc)

theorem plain (f : FuncId) (fn : Func) (hf : Tryd.pinned.checked.prog.funcNamed Tryd.f10.name = some f) (hfn : Tryd.pinned.checked.prog.funcs[f]? = some fn) :
    false = Tryd.pinned.checked.prog.looks [] ∧ ∀ (j : Nat) t, fn.params[j]? = some t → Tryd.pinned.checked.prog.wantsStandIn t = false := by
  obtain rfl : f = 10 := Option.some.inj ((show Tryd.prog.funcNamed Tryd.f10.name = some 10 by kernel_rfl).symm.trans hf) |>.symm
  obtain rfl : fn = Tryd.f10 := (Option.some.inj (Tryd.func10.symm.trans hfn)).symm
  refine ⟨by kernel_rfl, fun j t ht => ?_⟩
  rw [Tryd.params10] at ht
  have hm : t ∈ [22, 22, 46] := by simpa using Array.mem_of_getElem? ht
  have hall : ([22, 22, 46].all fun u => !Tryd.prog.wantsStandIn u) = true := by kernel_rfl
  exact (show Tryd.prog.wantsStandIn t = false from Bool.not_eq_true' _ |>.mp (List.all_eq_true.1 hall t hm))

theorem card : Rows.LinesGoOnCardSaid :=
  Claim7.holds_tied_plain_at .later [] _ _ _ _ said (fun _ h => by cases h) (by kernel_rfl) (fun _ h => by cases h) linesGoOn_row_tie rfl ⟨rfl, rfl⟩ (by kernel_rfl) rfl plain (by kernel_rfl)
#print axioms card
end Go.Proofs.YtjdjacnlobjmgaaDoor.GoOn
