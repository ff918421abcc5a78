/- GlyphFills is true of any two columns, tab and wish: the program's Fill lays the document's blanks, which go just so far, without tabs where these aren't wanted. No condition but the card's own: Go's two tables of unicode/utf8 hold what the library's text lays. -/
import Derived.Test.YtlceplcjjhliaaaDoorArgs
import Derived.Test.YtlceplcjjhliaaaDoorCallsL
import Derived.Test.YtlceplcjjhliaaaDoorCards
import Derived.Test.YtlceplcjjhliaaaDoorTie
namespace Go.Proofs.YtlceplcjjhliaaaDoor.Fills
open Go.ChangeShapes Go.WideShapes Go.ChangeAt Go.RowKit Go.Proofs.PlatenGlyph
set_option linter.unusedVariables false

set_option maxHeartbeats 400000 in
theorem same_none (a a' : Option Addr) (cap cap' : Nat) (w : World) :
    Calls Tryd.prog 33 #[.slice a 0 cap, .slice a' 0 cap'] w fun e w' => e = .returned (.bool true) ∧ Below w.heap.size w w' := by
  go_enter Tryd.func33, Tryd.ntmps33
  go_wp2
  go_loop [5] (fun i => i = .int .i64 0) (fun _ => 0)
  case atStart => rfl
  case round =>
    subst hrel
    go_wp2
    go_ret
    exact ⟨rfl, Below.refl _ _⟩

theorem same_any (v v' : Value) (n : Nat) (f : Nat → Nat) (w : World) (hn : n ≤ 100000) (h : IsBytes w v n f) (h' : IsBytes w v' n f) :
    Calls Tryd.prog 33 #[v, v'] w fun e w' => e = .returned (.bool true) ∧ Below w.heap.size w w' := by
  obtain ⟨hf, _, h⟩ := h
  obtain ⟨_, _, h'⟩ := h'
  rcases h with ⟨_, _, rfl, h0⟩ | ⟨b, off, cap, rfl, hcap, hc⟩
  · rcases h' with ⟨_, _, rfl, _⟩ | ⟨b', off', cap', rfl, hcap', hc'⟩
    · exact same_none _ _ _ _ w
    · subst h0; exact same_none _ _ _ _ w
  · rcases h' with ⟨_, _, rfl, h0⟩ | ⟨b', off', cap', rfl, hcap', hc'⟩
    · subst h0; exact same_none _ _ _ _ w
    · exact same_rows b off cap b' off' cap' n f w hn hf hc hc'

set_option maxHeartbeats 400000 in
theorem zero (fr to : Nat) (expand : Bool) (w : World) (hT : Lib.Utf8Tabs 0 1 w) :
    Calls Tryd.prog 12 #[.int .u8 fr, .int .u8 to, .int .u8 0, .bool expand] w fun e w' => e = .returned (.bool true) ∧ Below w.heap.size w w' := by
  have cs := signs_any w hT
  have HT := hidden hT
  clear hT
  go_enter Tryd.func12, Tryd.ntmps12
  go_wp2_with fail
  refine cs.mono ?_
  rintro e w1 ⟨rfl, hb⟩
  have cs2 := signs_any w1 (tabs_below HT.out hb)
  go_wp2_with fail
  refine cs2.mono ?_
  rintro e w2 ⟨rfl, hb2⟩
  go_wp2
  go_ret
  exact ⟨rfl, hb.trans (hb2.mono hb.size)⟩

theorem mem_getD {l : List Nat} {j : Nat} (hj : j < l.length) : l.getD j 0 ∈ l := by
  rw [List.getD_eq_getElem?_getD, List.getElem?_eq_getElem hj]; exact List.getElem_mem hj

set_option maxHeartbeats 2000000 in
theorem some' (fr to tab : Nat) (expand : Bool) (w : World) (hfr : fr < 256) (hto : to < 256) (htab : tab < 256) (h1 : 1 ≤ tab) (hT : Lib.Utf8Tabs 0 1 w) :
    Calls Tryd.prog 12 #[.int .u8 fr, .int .u8 to, .int .u8 tab, .bool expand] w fun e w' => e = .returned (.bool true) ∧ Below w.heap.size w w' := by
  have cs := signs_any w hT
  have HT := hidden hT
  have ht0 : ((tab : Int) == 0) = false := by simp; omega
  obtain ⟨L, hL⟩ : ∃ L, fll fr to tab expand = L := ⟨_, rfl⟩
  have HL := hidden hL
  have hbl := fll_blank fr to tab expand h1
  have hlen := fll_len fr to tab expand h1
  rw [hL] at hbl hlen
  have HBl := hidden hbl
  clear hT hL hbl
  go_enter Tryd.func12, Tryd.ntmps12
  go_wp2_with fail
  refine cs.mono ?_
  rintro e w1 ⟨rfl, hb1⟩
  have c1 := fill_any fr to tab expand w1 (by omega) (by omega) h1 (by omega)
  rw [HL.out] at c1
  clear cs
  go_wp2_with fail
  refine c1.mono ?_
  rintro e w2 ⟨v, rfl, hl⟩
  have B2 : IsBytes w2 v L.length (fun j => L.getD j 0) := isBytes_own (fun c hc => by have := (HBl.out c hc).1; omega) (by omega) hl.1
  have HB2 := hidden B2
  have Hb2 := hidden hl.2
  have c2 := rfill_any fr to tab expand w2 (by omega) (by omega) h1 (by omega)
  rw [HL.out] at c2
  clear c1 hl B2
  go_wp2_with fail
  refine c2.mono ?_
  rintro e w3 ⟨v', rfl, hl'⟩
  have B3 : IsBytes w3 v' L.length (fun j => L.getD j 0) := isBytes_own (fun c hc => by have := (HBl.out c hc).1; omega) (by omega) hl'.1
  have c3 := same_any v v' L.length (fun j => L.getD j 0) w3 (by omega) (HB2.out.below hl'.2) B3
  have HB3 := hidden (HB2.out.below hl'.2)
  have Hb3 : Hid (Below w.heap.size w w3) := (hb1.trans (Hb2.out.mono hb1.size)).trans (hl'.2.mono (Nat.le_trans hb1.size Hb2.out.size))
  have hz3 : w.heap.size ≤ w3.heap.size := Hb3.out.size
  clear c2 hl' B3 hb1
  go_wp2_with fail
  refine c3.mono ?_
  rintro e w4 ⟨rfl, hb4⟩
  have HB4 := hidden (HB3.out.below hb4)
  have Hb4 := hidden (Hb3.out.trans (hb4.mono hz3))
  have HT4 := hidden (tabs_below HT.out Hb4.out)
  clear c3 hb4
  obtain ⟨va, vcap, rfl⟩ := isBytes_len HB4.out
  obtain ⟨N, hN⟩ : ∃ N, L.length = N := ⟨_, rfl⟩
  have HN := hidden hN
  rw [hN] at hlen
  rw [hN]
  clear hN
  go_wp2
  go_loop [13] (fun i => ∃ k : Nat, k ≤ N ∧ i = .int .i64 k) (fun i => N - (intOf i).toNat)
  case atStart => exact ⟨0, Nat.zero_le _, rfl⟩
  case round =>
    obtain ⟨k, hk, rfl⟩ := hrel
    by_cases hlt : k < N
    · have hkl : k < L.length := by rw [HN.out]; exact hlt
      have hm := HBl.out _ (mem_getD hkl)
      have hcells := HB4.out.2.2
      rcases hcells with ⟨_, _, _, h0⟩ | ⟨b, off, cap, hv, _, hc⟩
      · omega
      simp only [Value.slice.injEq] at hv
      obtain ⟨rfl, _, rfl⟩ := hv
      obtain ⟨x, hx⟩ : ∃ x, L.getD k 0 = x := ⟨_, rfl⟩
      have hcell : w4.cell? ⟨b, off + k, none⟩ = some (.int .u8 x) := by rw [← hx]; exact hc k hkl
      clear hc
      rw [hx] at hm
      have hkz : (k : Int) < (N : Int) := by omega
      clear hx
      have cb := blank_any x w4 (by omega)
      have hbx : blankB x = true := by unfold blankB; simp; omega
      rw [hbx] at cb
      clear hbx
      cases expand with
      | true =>
        have h32 := hm.2 rfl
        subst h32
        have cb' : Calls Tryd.prog 24 #[.int .u8 32] w4 fun e w' => e = .returned (.bool true) ∧ w' = w4 := cb
        clear hm cb
        go_wp2_with (go_at_call 24; refine cb'.mono ?_; rintro e w5 ⟨rfl, rfl⟩)
        go_round
        case rel => exact ⟨k + 1, by omega, by go_num⟩
        case measure => simp [intOf]; omega
      | false =>
        clear hm
        go_wp2_with (go_at_call 24; refine cb.mono ?_; rintro e w5 ⟨rfl, rfl⟩)
        go_round
        case rel => exact ⟨k + 1, by omega, by go_num⟩
        case measure => simp [intOf]; omega
    · have hkn : k = N := by omega
      subst hkn
      by_cases hge : to ≤ fr
      · have hgz : (fr : Int) ≥ (to : Int) := by omega
        have h0 : k = 0 := by omega
        subst h0
        go_wp2
        go_ret
        exact ⟨rfl, Hb4.out⟩
      · have hgz : ¬ ((fr : Int) ≥ (to : Int)) := by omega
        have hw : wide (fun j => L.getD j 0) L.length fr tab = to := by
          rw [wide_lead (fun c hc => by have := (HBl.out c hc).1; omega), ← HL.out]
          exact fll_leads fr to tab expand h1 (by omega)
        have c5 := wide_any _ (fun j => L.getD j 0) L.length fr tab w4 (by rw [HN.out]; omega) HT4.out HB4.out (by omega) h1 (by omega)
        rw [hw, HN.out] at c5
        clear hw
        go_wp2_with (go_at_call 28; refine c5.mono ?_; rintro e w5 ⟨rfl, hb5⟩)
        go_ret
        exact ⟨rfl, Hb4.out.trans (hb5.mono Hb4.out.size)⟩

theorem law (fr to tab : Nat) (expand : Bool) (w : World) (hfr : fr < 256) (hto : to < 256) (htab : tab < 256) (hT : Lib.Utf8Tabs 0 1 w) :
    Calls Tryd.prog 12 #[.int .u8 fr, .int .u8 to, .int .u8 tab, .bool expand] w fun e w' => e = .returned (.bool true) ∧ Below w.heap.size w w' := by
  by_cases h : tab = 0
  · subst h; exact zero fr to expand w hT
  · exact some' fr to tab expand w hfr hto htab (by omega) hT

set_option maxRecDepth 100000 in
theorem lifted (os : Os) (started : os.Started) (H : Type) (enc : TypeId × Value → H) :
    ReturnsInHanded {} Tryd.checked os 12 .any (fun w args => (Rows.glyphFillsSpec.pre enc Tryd.prog Tryd.f12 [] false w args ∧ laidMetH Tryd.prog laid w) ∧ sizedMet enc Tryd.prog Tryd.f12 (OpenSpec.ofChange Rows.glyphFillsSpec) false w args)
      (Rows.glyphFillsSpec.post enc Tryd.prog Tryd.f12 false true false false) := by
  refine returnsInHanded_of_change_and (C := Tryd.checked) (X := fun w _ => laidMetH Tryd.prog laid w) (fun _ _ _ hh h => h.of_heap hh) own started (by kernel_rfl) Tryd.func12
    (ChangeSpec.witness_shaped (enc := enc) (C := Tryd.checked) (os := os) (X := fun w _ => laidMetH Tryd.prog laid w) false (World.laidAll Tryd.prog os laid) #[.int .u8 0, .int .u8 0, .int .u8 0, .bool false] 8 (World.laidAll_os _ _ _)
      (World.shaped_of_ZipB (by kernel_rfl) (by kernel_rfl)) (by kernel_rfl) (by kernel_rfl) (by kernel_rfl) (laid_world os _)) ?_
  intro W base args ds gs before hval0 hW _ _ hL _
  have hval : ∀ (j : Nat) t v, Tryd.f12.params[j]? = some t → args[j]? = some v → Value.okWide Tryd.prog W .any base t v := hval0
  have hW' := hW
  obtain ⟨p, q, hA0, hV, rfl, _, _⟩ := hW
  have hA : DataW.TrodAll enc Tryd.prog W 0 (fun _ => true) true Tryd.f12.params.toList args.toList ds p := hA0
  rw [Tryd.params12] at hA hval
  obtain ⟨v0, vs0, d0, ds0, p0, q0, hargs, rfl, rfl, h0, r0⟩ := trodAll_cons hA
  obtain ⟨v1, vs1, d1, ds1, p1, q1, rfl, rfl, rfl, h1, r1⟩ := trodAll_cons r0
  obtain ⟨v2, vs2, d2, ds2, p2, q2, rfl, rfl, rfl, h2, r2⟩ := trodAll_cons r1
  obtain ⟨v3, vs3, d3, ds3, p3, q3, rfl, rfl, rfl, h3, r3⟩ := trodAll_cons r2
  obtain ⟨rfl, rfl, rfl⟩ := trodAll_nil r3
  obtain rfl : args = #[v0, v1, v2, v3] := by cases args; simp_all
  obtain ⟨rfl, rfl⟩ := trodVars_none hV
  obtain ⟨x0, rfl, rfl, rfl, w0⟩ := open_int Tryd.underlying5 (hval 0 5 v0 rfl rfl) h0
  have b0 : 0 ≤ x0 ∧ x0 ≤ 255 := by simpa [Lit.wf, IntKind.min, IntKind.max, IntKind.signed, IntKind.bits] using w0
  obtain ⟨c0, rfl⟩ := Int.eq_ofNat_of_zero_le b0.1
  obtain ⟨x1, rfl, rfl, rfl, w1⟩ := open_int Tryd.underlying5 (hval 1 5 v1 rfl rfl) h1
  have b1 : 0 ≤ x1 ∧ x1 ≤ 255 := by simpa [Lit.wf, IntKind.min, IntKind.max, IntKind.signed, IntKind.bits] using w1
  obtain ⟨c1, rfl⟩ := Int.eq_ofNat_of_zero_le b1.1
  obtain ⟨x2, rfl, rfl, rfl, w2⟩ := open_int Tryd.underlying5 (hval 2 5 v2 rfl rfl) h2
  have b2 : 0 ≤ x2 ∧ x2 ≤ 255 := by simpa [Lit.wf, IntKind.min, IntKind.max, IntKind.signed, IntKind.bits] using w2
  obtain ⟨c2, rfl⟩ := Int.eq_ofNat_of_zero_le b2.1
  obtain ⟨x3, rfl, rfl, rfl⟩ := open_bool Tryd.underlying4 (hval 3 4 v3 rfl rfl) h3
  clear hA0 hval0
  simp only [List.append_nil] at hW'
  refine (law c0 c1 c2 x3 W (by omega) (by omega) (by omega) (tabs_of_laid hL)).mono fun e W' ⟨he, bel⟩ => ?_
  subst he
  exact ⟨_, rfl, _, _, _, [], _, [], hW', trodAll_mk1 (shut_bool Tryd.underlying4 _), (trodAll_cons_mk (shut_int Tryd.underlying5 w0) (trodAll_cons_mk (shut_int Tryd.underlying5 w1) (trodAll_cons_mk (shut_int Tryd.underlying5 w2) (trodAll_cons_mk (shut_bool Tryd.underlying4 _) trodAll_mk0)))), rfl, bel.frame _, fun h => by cases h⟩

theorem said : Rows.GlyphFillsSaid :=
  OpenClaim.holds_of_wide 12 Tryd.f12 rfl rfl rfl rfl rfl rfl rfl ⟨rfl, rfl, rfl, rfl, rfl⟩ rfl rfl rfl rfl rfl (by kernel_rfl) Tryd.func12 (by kernel_rfl)
    (of_decide_eq_true (by kernel_rfl)) (by unfold Func.isWrapper; first | (rw [if_pos (by decide +kernel)]; kernel_rfl) | (rw [if_neg (by decide +kernel)]; exact ⟨rfl, rfl⟩))
    (fun os started H enc _ => lifted os started H enc)

theorem plain (f : FuncId) (fn : Func) (hf : Tryd.pinned.checked.prog.funcNamed Tryd.f12.name = some f) (hfn : Tryd.pinned.checked.prog.funcs[f]? = some fn) :
    false = Tryd.pinned.checked.prog.looks [] ∧ ∀ (j : Nat) t, fn.params[j]? = some t → Tryd.pinned.checked.prog.wantsStandIn t = false := by
  obtain rfl : f = 12 := Option.some.inj ((show Tryd.prog.funcNamed Tryd.f12.name = some 12 by kernel_rfl).symm.trans hf) |>.symm
  obtain rfl : fn = Tryd.f12 := (Option.some.inj (Tryd.func12.symm.trans hfn)).symm
  refine ⟨by kernel_rfl, fun j t ht => ?_⟩
  rw [Tryd.params12] at ht
  have hm : t ∈ [5, 5, 5, 4] := by simpa using Array.mem_of_getElem? ht
  have hall : ([5, 5, 5, 4].all fun u => !Tryd.prog.wantsStandIn u) = true := by kernel_rfl
  exact (show Tryd.prog.wantsStandIn t = false from Bool.not_eq_true' _ |>.mp (List.all_eq_true.1 hall t hm))

theorem card : Rows.GlyphFillsCardSaid :=
  Claim7.holds_tied_plain_at .later [] _ _ _ _ said (fun _ h => by cases h) (by kernel_rfl) (fun _ h => by cases h) glyphFills_row_tie rfl ⟨rfl, rfl⟩ (by kernel_rfl) rfl plain (by kernel_rfl)
#print axioms card
end Go.Proofs.YtlceplcjjhliaaaDoor.Fills
