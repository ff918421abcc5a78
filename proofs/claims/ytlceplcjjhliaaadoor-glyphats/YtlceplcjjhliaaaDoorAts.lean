/- GlyphAts is true of any bytes, column and tab: the program's At is the document's; ahead of it the columns aren't above that one, behind it they are. No condition but the card's own: Go's two tables of unicode/utf8 hold what the library's text lays. -/
import Derived.Test.YtlceplcjjhliaaaDoorArgs
import Derived.Test.YtlceplcjjhliaaaDoorCallsJ
import Derived.Test.YtlceplcjjhliaaaDoorCards
import Derived.Test.YtlceplcjjhliaaaDoorTie
namespace Go.Proofs.YtlceplcjjhliaaaDoor.Ats
open Go.ChangeShapes Go.WideShapes Go.ChangeAt Go.RowKit Go.Proofs.PlatenGlyph
set_option linter.unusedVariables false

set_option maxHeartbeats 400000 in
theorem long (v : Value) (n : Nat) (f : Nat → Nat) (col tab : Nat) (w : World) (hv : IsArg w v n f) (hn : 200 < n) (hT : Lib.Utf8Tabs 0 1 w) :
    Calls Tryd.prog 11 #[v, .int .u16 col, .int .u8 tab] w fun e w' => e = .returned (.bool true) ∧ Below w.heap.size w w' := by
  have cs := signs_any w hT
  have HT := hidden hT
  obtain ⟨ea, cap, rfl⟩ := hv.val
  have hnz : 200 < (n : Int) := by omega
  clear hT hv
  go_enter Tryd.func11, Tryd.ntmps11
  go_wp2_with fail
  refine cs.mono ?_
  rintro e w1 ⟨rfl, hb⟩
  have cs2 := signs_any w1 (tabs_below HT.out hb)
  go_wp2_with fail
  refine cs2.mono ?_
  rintro e w2 ⟨rfl, hb2⟩
  go_wp2
  go_ret
  exact ⟨rfl, hb.trans (hb2.mono hb.size)⟩

set_option maxHeartbeats 400000 in
theorem zero (v : Value) (n : Nat) (f : Nat → Nat) (col : Nat) (w : World) (hv : IsArg w v n f) (hn : ¬ 200 < n) (hT : Lib.Utf8Tabs 0 1 w) :
    Calls Tryd.prog 11 #[v, .int .u16 col, .int .u8 0] w fun e w' => e = .returned (.bool true) ∧ Below w.heap.size w w' := by
  have cs := signs_any w hT
  have HT := hidden hT
  obtain ⟨ea, cap, rfl⟩ := hv.val
  have hnz : ¬ (200 < (n : Int)) := by omega
  clear hT hv
  go_enter Tryd.func11, Tryd.ntmps11
  go_wp2_with fail
  refine cs.mono ?_
  rintro e w1 ⟨rfl, hb⟩
  have cs2 := signs_any w1 (tabs_below HT.out hb)
  go_wp2_with fail
  refine cs2.mono ?_
  rintro e w2 ⟨rfl, hb2⟩
  go_wp2
  go_ret
  exact ⟨rfl, hb.trans (hb2.mono hb.size)⟩

set_option maxHeartbeats 1000000 in
theorem row (b off n cap : Nat) (f : Nat → Nat) (col tab : Nat) (w : World) (hf : ∀ j, f j < 256) (hcap : n ≤ cap) (hc : Cells w b off n f) (hn : n ≤ 200) (hcol : col < 65536) (htab : tab < 256) (h1 : 1 ≤ tab) (hT : Lib.Utf8Tabs 0 1 w) :
    Calls Tryd.prog 11 #[.slice (some ⟨b, off, none⟩) n cap, .int .u16 col, .int .u8 tab] w fun e w' => e = .returned (.bool true) ∧ Below w.heap.size w w' := by
  have cs := signs_any w hT
  have HT := hidden hT
  have HC := hidden hc
  have hnz : ¬ (200 < (n : Int)) := by omega
  have ht0 : ((tab : Int) == 0) = false := by simp; omega
  have mk : ∀ (u : World) (m : Nat), m ≤ n → Cells u b off n f → IsBytes u (.slice (some ⟨b, off, none⟩) m cap) m f := fun u m hm hcu => ⟨hf, by omega, Or.inr ⟨b, off, cap, rfl, by omega, hcu.head hm⟩⟩
  clear hT hc
  go_enter Tryd.func11, Tryd.ntmps11
  go_wp2_with fail
  refine cs.mono ?_
  rintro e w1 ⟨rfl, hb⟩
  have C1 := hidden (HC.out.below hb)
  have T1 := hidden (tabs_below HT.out hb)
  have c1 := at_any _ f n col tab w1 (by omega) T1.out (mk w1 n (Nat.le_refl _) C1.out) (by omega) h1 (by omega)
  clear cs
  go_wp2_with fail
  refine c1.mono ?_
  rintro e w2 ⟨x, rfl, hx, hb2⟩
  have C2 := hidden (C1.out.below hb2)
  have T2 := hidden (tabs_below T1.out hb2)
  have c2 := rat_any _ f n col tab w2 (by omega) (mk w2 n (Nat.le_refl _) C2.out) (by omega) h1 (by omega)
  clear c1
  have HX := hidden hx
  clear hx
  go_wp2_with fail
  refine c2.mono ?_
  rintro e w3 ⟨y, rfl, hy, hb3⟩
  obtain rfl : x = y := isAt_eq HX.out hy
  have C3 := hidden (C2.out.below hb3)
  have T3 := hidden (tabs_below T2.out hb3)
  have Hb : Hid (Below w.heap.size w w3) := (hb.trans (hb2.mono hb.size)).trans (hb3.mono (Nat.le_trans hb.size hb2.size))
  have hz3 : w.heap.size ≤ w3.heap.size := Nat.le_trans hb.size (Nat.le_trans hb2.size hb3.size)
  clear c2 hy hb hb2 hb3
  obtain ⟨k, k1, k2, k3, k4⟩ := HX.out
  have hxn : x ≤ n := by rw [k2]; exact nth_le _ _ _
  have hwx : wide f x 0 tab = wid f n 0 tab k := by rw [k2]; exact wide_head rfl k1 0 tab
  have hle : wide f x 0 tab ≤ col := by
    rw [hwx]
    cases k with
    | zero => exact Nat.zero_le _
    | succ k => exact k3 k (by omega)
  have c4 : Calls Tryd.prog 28 #[.slice (some ⟨b, off, none⟩) x cap, .int .i64 0, .int .i64 tab] w3 fun e w' => e = .returned (.int .i64 (wide f x 0 tab)) ∧ Below w3.heap.size w3 w' :=
    wide_any (.slice (some ⟨b, off, none⟩) x cap) f x 0 tab w3 (by omega) T3.out (mk w3 x hxn C3.out) (by omega) h1 (by omega)
  have g1 : ¬ ((x : Int) < 0) := by omega
  have g2 : ¬ ((n : Int) < (x : Int)) := by omega
  have g3 : ¬ ((col : Int) < ((wide f x 0 tab : Nat) : Int)) := by omega
  by_cases hend : x = n
  · have g4 : ((x : Int) == (n : Int)) = true := by simp; omega
    clear k1 k2 k3 k4 hwx hle HX hend
    generalize wide f x 0 tab = W at *
    go_wp2_with fail
    refine c4.mono ?_
    rintro e w4 ⟨rfl, hb4⟩
    go_wp2
    go_ret
    exact ⟨rfl, Hb.out.trans (hb4.mono hz3)⟩
  · have g4 : ((x : Int) == (n : Int)) = false := by simp; omega
    have hkc : k < cnt f n := by
      have := cnt_iff f n k; omega
    have hgt := k4 hkc
    obtain ⟨z, hz⟩ : ∃ z, nth f n (k + 1) = z := ⟨_, rfl⟩
    have hzs : x + szAt f n x = z := by rw [← hz, k2]; rfl
    have hzn : z ≤ n := by rw [← hz]; exact nth_le _ _ _
    have hwz : wide f z 0 tab = wid f n 0 tab (k + 1) := wide_head hz hkc 0 tab
    have g5 : (col : Int) < ((wide f z 0 tab : Nat) : Int) := by omega
    have g6 : (x : Int) + ((szAt f n x : Nat) : Int) = (z : Int) := by omega
    have hxlt : x < n := by omega
    have hs4 := szAt_le4 f n x
    clear k1 k2 k3 k4 hwx hle HX hend hwz hz hgt hkc hzs
    generalize wide f x 0 tab = W at *
    go_wp2_with fail
    refine c4.mono ?_
    rintro e w4 ⟨rfl, hb4⟩
    have C4 := hidden (C3.out.below hb4)
    have T4 := hidden (tabs_below T3.out hb4)
    have c5 := next_in f b off n cap x w4 hf (by omega) hcap T4.out C4.out hxlt
    have Hb4 := hidden (Hb.out.trans (hb4.mono hz3))
    have hz4 : w.heap.size ≤ w4.heap.size := Nat.le_trans hz3 hb4.size
    clear c4 hb4
    generalize szAt f n x = s at *
    go_wp2_with fail
    refine c5.mono ?_
    rintro e w5 ⟨rfl, hb5⟩
    have C5 := hidden (C4.out.below hb5)
    have T5 := hidden (tabs_below T4.out hb5)
    have c6 : Calls Tryd.prog 28 #[.slice (some ⟨b, off, none⟩) z cap, .int .i64 0, .int .i64 tab] w5 fun e w' => e = .returned (.int .i64 (wide f z 0 tab)) ∧ Below w5.heap.size w5 w' :=
      wide_any (.slice (some ⟨b, off, none⟩) z cap) f z 0 tab w5 (by omega) T5.out (mk w5 z hzn C5.out) (by omega) h1 (by omega)
    have Hb5 := hidden (Hb4.out.trans (hb5.mono hz4))
    have hz5 : w.heap.size ≤ w5.heap.size := Nat.le_trans hz4 hb5.size
    clear c5 hb5
    generalize wide f z 0 tab = Z at *
    go_wp2_with fail
    refine c6.mono ?_
    rintro e w6 ⟨rfl, hb6⟩
    go_wp2
    go_ret
    exact ⟨rfl, Hb5.out.trans (hb6.mono hz5)⟩

theorem isAt_zero {f : Nat → Nat} {col tab x : Nat} (h : IsAt f 0 col tab x) : x = 0 := by
  obtain ⟨k, _, rfl, _⟩ := h
  have := nth_le f 0 k; omega

set_option maxHeartbeats 1000000 in
theorem empty (ea : Option Addr) (ecap : Nat) (f : Nat → Nat) (col tab : Nat) (w : World) (hf : ∀ j, f j < 256) (hcol : col < 65536) (htab : tab < 256) (h1 : 1 ≤ tab) (hT : Lib.Utf8Tabs 0 1 w) :
    Calls Tryd.prog 11 #[.slice ea 0 ecap, .int .u16 col, .int .u8 tab] w fun e w' => e = .returned (.bool true) ∧ Below w.heap.size w w' := by
  have cs := signs_any w hT
  have HT := hidden hT
  have ht0 : ((tab : Int) == 0) = false := by simp; omega
  have mk : ∀ (u : World) (a : Option Addr) (c : Nat), IsBytes u (.slice a 0 c) 0 f := fun u a c => ⟨hf, by omega, Or.inl ⟨_, _, rfl, rfl⟩⟩
  clear hT
  go_enter Tryd.func11, Tryd.ntmps11
  go_wp2_with fail
  refine cs.mono ?_
  rintro e w1 ⟨rfl, hb⟩
  have T1 := hidden (tabs_below HT.out hb)
  have c1 := at_any _ f 0 col tab w1 (by omega) T1.out (mk w1 ea ecap) (by omega) h1 (by omega)
  clear cs
  go_wp2_with fail
  refine c1.mono ?_
  rintro e w2 ⟨x, rfl, hx, hb2⟩
  obtain rfl := isAt_zero hx
  have T2 := hidden (tabs_below T1.out hb2)
  have c2 := rat_any _ f 0 col tab w2 (by omega) (mk w2 ea ecap) (by omega) h1 (by omega)
  clear c1 hx
  go_wp2_with fail
  refine c2.mono ?_
  rintro e w3 ⟨y, rfl, hy, hb3⟩
  obtain rfl := isAt_zero hy
  have T3 := hidden (tabs_below T2.out hb3)
  have Hb : Hid (Below w.heap.size w w3) := (hb.trans (hb2.mono hb.size)).trans (hb3.mono (Nat.le_trans hb.size hb2.size))
  have hz3 : w.heap.size ≤ w3.heap.size := Nat.le_trans hb.size (Nat.le_trans hb2.size hb3.size)
  have c4 : ∀ a c, Calls Tryd.prog 28 #[.slice a 0 c, .int .i64 0, .int .i64 tab] w3 fun e w' => e = .returned (.int .i64 0) ∧ Below w3.heap.size w3 w' :=
    fun a c => wide_any (.slice a 0 c) f 0 0 tab w3 (by omega) T3.out (mk w3 a c) (by omega) h1 (by omega)
  have C4 := hidden c4
  clear c2 hy hb hb2 hb3 c4
  cases ea with
  | none =>
    go_wp2_with fail
    refine (C4.out _ _).mono ?_
    rintro e w4 ⟨rfl, hb4⟩
    go_wp2
    go_ret
    exact ⟨rfl, Hb.out.trans (hb4.mono hz3)⟩
  | some a =>
    go_wp2_with fail
    refine (C4.out _ _).mono ?_
    rintro e w4 ⟨rfl, hb4⟩
    go_wp2
    go_ret
    exact ⟨rfl, Hb.out.trans (hb4.mono hz3)⟩

theorem law (v : Value) (n : Nat) (f : Nat → Nat) (col tab : Nat) (w : World) (hv : IsArg w v n f) (hcol : col < 65536) (htab : tab < 256) (hT : Lib.Utf8Tabs 0 1 w) :
    Calls Tryd.prog 11 #[v, .int .u16 col, .int .u8 tab] w fun e w' => e = .returned (.bool true) ∧ Below w.heap.size w w' := by
  by_cases hn : 200 < n
  · exact long v n f col tab w hv hn hT
  by_cases h0 : tab = 0
  · subst h0; exact zero v n f col w hv hn hT
  obtain ⟨hf, _, h⟩ := hv
  rcases h with ⟨ea, ecap, rfl, rfl⟩ | ⟨b, off, cap, rfl, hcap, hc⟩
  · exact empty ea ecap f col tab w hf hcol htab (by omega) hT
  · exact row b off n cap f col tab w hf hcap hc (by omega) hcol htab (by omega) hT

set_option maxRecDepth 100000 in
theorem lifted (os : Os) (started : os.Started) (H : Type) (enc : TypeId × Value → H) :
    ReturnsInHanded {} Tryd.checked os 11 .any (fun w args => (Rows.glyphAtsSpec.pre enc Tryd.prog Tryd.f11 [] false w args ∧ laidMetH Tryd.prog laid w) ∧ sizedMet enc Tryd.prog Tryd.f11 (OpenSpec.ofChange Rows.glyphAtsSpec) false w args)
      (Rows.glyphAtsSpec.post enc Tryd.prog Tryd.f11 false true false false) := by
  refine returnsInHanded_of_change_and (C := Tryd.checked) (X := fun w _ => laidMetH Tryd.prog laid w) (fun _ _ _ hh h => h.of_heap hh) own started (by kernel_rfl) Tryd.func11
    (ChangeSpec.witness_shaped (enc := enc) (C := Tryd.checked) (os := os) (X := fun w _ => laidMetH Tryd.prog laid w) false (World.laidAll Tryd.prog os laid) #[.slice none 0 0, .int .u16 0, .int .u8 0] 8 (World.laidAll_os _ _ _)
      (World.shaped_of_ZipB (by kernel_rfl) (by kernel_rfl)) (by kernel_rfl) (by kernel_rfl) (by kernel_rfl) (laid_world os _)) ?_
  intro W base args ds gs before hval0 hW _ _ hL _
  have hval : ∀ (j : Nat) t v, Tryd.f11.params[j]? = some t → args[j]? = some v → Value.okWide Tryd.prog W .any base t v := hval0
  have hW' := hW
  obtain ⟨p, q, hA0, hV, rfl, _, _⟩ := hW
  have hA : DataW.TrodAll enc Tryd.prog W 0 (fun _ => true) true Tryd.f11.params.toList args.toList ds p := hA0
  rw [Tryd.params11] at hA hval
  obtain ⟨v0, vs0, d0, ds0, p0, q0, hargs, rfl, rfl, h0, r0⟩ := trodAll_cons hA
  obtain ⟨v1, vs1, d1, ds1, p1, q1, rfl, rfl, rfl, h1, r1⟩ := trodAll_cons r0
  obtain ⟨v2, vs2, d2, ds2, p2, q2, rfl, rfl, rfl, h2, r2⟩ := trodAll_cons r1
  obtain ⟨rfl, rfl, rfl⟩ := trodAll_nil r2
  obtain rfl : args = #[v0, v1, v2] := by cases args; simp_all
  obtain ⟨rfl, rfl⟩ := trodVars_none hV
  have lt0 : ∀ x ∈ p0, x.block < W.heap.size := by obtain ⟨m, hm⟩ := h0; exact DataW.trod_lt m _ _ _ hm
  obtain ⟨n0, f0, g0⟩ := open_bytes (hval 0 22 v0 rfl rfl) h0
  obtain ⟨x1, rfl, rfl, rfl, w1⟩ := open_int Tryd.underlying33 (hval 1 33 v1 rfl rfl) h1
  have b1 : 0 ≤ x1 ∧ x1 ≤ 65535 := by simpa [Lit.wf, IntKind.min, IntKind.max, IntKind.signed, IntKind.bits] using w1
  obtain ⟨c1, rfl⟩ := Int.eq_ofNat_of_zero_le b1.1
  obtain ⟨x2, rfl, rfl, rfl, w2⟩ := open_int Tryd.underlying5 (hval 2 5 v2 rfl rfl) h2
  have b2 : 0 ≤ x2 ∧ x2 ≤ 255 := by simpa [Lit.wf, IntKind.min, IntKind.max, IntKind.signed, IntKind.bits] using w2
  obtain ⟨c2, rfl⟩ := Int.eq_ofNat_of_zero_le b2.1
  clear hA0 hval0
  simp only [List.append_nil] at hW'
  refine (law v0 n0 f0 c1 c2 W g0 (by omega) (by omega) (tabs_of_laid hL)).mono fun e W' ⟨he, bel⟩ => ?_
  subst he
  exact ⟨_, rfl, _, _, _, [], _, [], hW', trodAll_mk1 (shut_bool Tryd.underlying4 _), (trodAll_cons_mk (Below.trod laidOut (by kernel_rfl) (of_decide_eq_true (by kernel_rfl)) h0 bel lt0) (trodAll_cons_mk (shut_int Tryd.underlying33 w1) (trodAll_cons_mk (shut_int Tryd.underlying5 w2) trodAll_mk0))), rfl, bel.frame _, fun h => by cases h⟩

theorem said : Rows.GlyphAtsSaid :=
  OpenClaim.holds_of_wide 11 Tryd.f11 rfl rfl rfl rfl rfl rfl rfl ⟨rfl, rfl, rfl, rfl, rfl⟩ rfl rfl rfl rfl rfl (by kernel_rfl) Tryd.func11 (by kernel_rfl)
    (of_decide_eq_true (by kernel_rfl)) (by unfold Func.isWrapper; first | (rw [if_pos (by decide +kernel)]; kernel_rfl) | (rw [if_neg (by decide +kernel)]; exact ⟨rfl, rfl⟩))
    (fun os started H enc _ => lifted os started H enc)

theorem plain (f : FuncId) (fn : Func) (hf : Tryd.pinned.checked.prog.funcNamed Tryd.f11.name = some f) (hfn : Tryd.pinned.checked.prog.funcs[f]? = some fn) :
    false = Tryd.pinned.checked.prog.looks [] ∧ ∀ (j : Nat) t, fn.params[j]? = some t → Tryd.pinned.checked.prog.wantsStandIn t = false := by
  obtain rfl : f = 11 := Option.some.inj ((show Tryd.prog.funcNamed Tryd.f11.name = some 11 by kernel_rfl).symm.trans hf) |>.symm
  obtain rfl : fn = Tryd.f11 := (Option.some.inj (Tryd.func11.symm.trans hfn)).symm
  refine ⟨by kernel_rfl, fun j t ht => ?_⟩
  rw [Tryd.params11] at ht
  have hm : t ∈ [22, 33, 5] := by simpa using Array.mem_of_getElem? ht
  have hall : ([22, 33, 5].all fun u => !Tryd.prog.wantsStandIn u) = true := by kernel_rfl
  exact (show Tryd.prog.wantsStandIn t = false from Bool.not_eq_true' _ |>.mp (List.all_eq_true.1 hall t hm))

theorem card : Rows.GlyphAtsCardSaid :=
  Claim7.holds_tied_plain_at .later [] _ _ _ _ said (fun _ h => by cases h) (by kernel_rfl) (fun _ h => by cases h) glyphAts_row_tie rfl ⟨rfl, rfl⟩ (by kernel_rfl) rfl plain (by kernel_rfl)
#print axioms card
end Go.Proofs.YtlceplcjjhliaaaDoor.Ats
