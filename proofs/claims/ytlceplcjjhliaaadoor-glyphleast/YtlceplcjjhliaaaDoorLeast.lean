/- GlyphLeast is true of any blanks, column and tab: none that go as far are fewer than those that Fill lays, and these go as far. No condition but the card's own: Go's two tables of unicode/utf8 hold what the library's text lays. -/
import Derived.Test.YtlceplcjjhliaaaDoorArgs
import Derived.Test.YtlceplcjjhliaaaDoorCallsL
import Derived.Test.YtlceplcjjhliaaaDoorCards
import Derived.Test.YtlceplcjjhliaaaDoorTie
namespace Go.Proofs.YtlceplcjjhliaaaDoor.Least
open Go.ChangeShapes Go.WideShapes Go.ChangeAt Go.RowKit Go.Proofs.PlatenGlyph
set_option linter.unusedVariables false

theorem rch_next {a tab : Nat} (h1 : 1 ≤ tab) (h2 : 2 ≤ rch a tab) : rch (a + 1) tab = rch a tab - 1 := by
  have hm := Nat.mod_lt a (show tab > 0 by omega)
  unfold rch at *
  have : (a + 1) % tab = a % tab + 1 := by
    rw [Nat.add_mod, Nat.mod_eq_of_lt (show 1 < tab by omega), Nat.mod_eq_of_lt (show a % tab + 1 < tab by omega)]
  rw [this]; omega

/-- From a column further on one never needs more blanks. -/
theorem fll_less {a to tab : Nat} (h1 : 1 ≤ tab) : (fll (a + 1) to tab false).length ≤ (fll a to tab false).length := by
  have hr := rch_pos a tab h1
  by_cases h : a < to
  · by_cases hs : spc a to tab false
    · rw [fll_space h1 h hs, List.length_cons]; omega
    · rw [fll_tab h1 h hs, List.length_cons]
      have hs' := hs
      rw [spc_iff] at hs'
      have hn := rch_next (a := a) h1 (by omega)
      have h' : a + 1 < to := by omega
      by_cases c : spc (a + 1) to tab false
      · have c' := c
        rw [spc_iff] at c'
        rw [fll_space h1 h' c, List.length_cons, show a + 1 + 1 = a + rch a tab by simp at c'; omega]
        exact Nat.le_refl _
      · rw [fll_tab h1 h' c, List.length_cons, show a + 1 + rch (a + 1) tab = a + rch a tab by omega]
        exact Nat.le_refl _
  · rw [fll_end (show ¬ a + 1 < to by omega)]; exact Nat.zero_le _

theorem fll_mono {to tab : Nat} (h1 : 1 ≤ tab) (a : Nat) : ∀ d, (fll (a + d) to tab false).length ≤ (fll a to tab false).length
  | 0 => Nat.le_refl _
  | d + 1 => Nat.le_trans (fll_less h1) (fll_mono h1 a d)

theorem lead_ge' {tab : Nat} (h1 : 1 ≤ tab) : ∀ (l : List Nat) (a : Nat), a ≤ lead' tab l a
  | [], a => Nat.le_refl _
  | c :: l, a => Nat.le_trans (Nat.le_of_lt (stp_lt a c tab h1).1) (lead_ge' h1 l _)

theorem fll_least {tab : Nat} (h1 : 1 ≤ tab) : ∀ (l : List Nat) (a : Nat), (∀ c, c ∈ l → c = 32 ∨ c = 9) → (fll a (lead' tab l a) tab false).length ≤ l.length
  | [], a, _ => by
    show (fll a a tab false).length ≤ 0
    rw [fll_end (Nat.lt_irrefl _)]; exact Nat.le_refl _
  | c :: l, a, h => by
    have ih := fll_least h1 l (stp a c tab) (fun x hx => h x (List.mem_cons_of_mem _ hx))
    have hge := lead_ge' h1 l (stp a c tab)
    have hlt := (stp_lt a c tab h1).1
    obtain ⟨to, hto⟩ : ∃ to, lead' tab l (stp a c tab) = to := ⟨_, rfl⟩
    show (fll a (lead' tab l (stp a c tab)) tab false).length ≤ _
    rw [hto] at ih hge ⊢
    rw [List.length_cons]
    have hato : a < to := by omega
    have hr := rch_pos a tab h1
    by_cases hs : spc a to tab false
    · rw [fll_space h1 hato hs, List.length_cons]
      rcases h c (List.mem_cons_self) with rfl | rfl
      · rw [stp32] at ih; omega
      · rw [stp9] at ih hge
        rw [spc_iff] at hs
        simp at hs
        have : rch a tab = 1 := by omega
        rw [this] at ih; omega
    · rw [fll_tab h1 hato hs, List.length_cons]
      rcases h c (List.mem_cons_self) with rfl | rfl
      · rw [stp32] at ih
        have := fll_mono (to := to) h1 (a + 1) (rch a tab - 1)
        rw [show a + 1 + (rch a tab - 1) = a + rch a tab by omega] at this
        omega
      · rw [stp9] at ih; omega

def pick (f : Nat → Nat) (i : Nat) : Nat := if f i % 2 = 0 then 32 else 9
def someL (f : Nat → Nat) (k : Nat) : List Nat := (List.range k).map (pick f)
theorem someL_succ (f : Nat → Nat) (k : Nat) : someL f (k + 1) = someL f k ++ [pick f k] := by simp [someL, List.range_succ]
theorem someL_len (f : Nat → Nat) (k : Nat) : (someL f k).length = k := by simp [someL]
theorem someL_mem (f : Nat → Nat) (k : Nat) : ∀ c, c ∈ someL f k → c = 32 ∨ c = 9 := by
  intro c hc
  obtain ⟨i, _, rfl⟩ := List.mem_map.1 hc
  unfold pick; split
  · exact Or.inl rfl
  · exact Or.inr rfl
theorem lead_le {tab : Nat} (h1 : 1 ≤ tab) : ∀ (l : List Nat) (a : Nat), lead' tab l a ≤ a + l.length * tab
  | [], a => by simp [lead']
  | c :: l, a => by
    have := lead_le h1 l (stp a c tab)
    have h2 := (stp_lt a c tab h1).2
    show lead' tab l (stp a c tab) ≤ _
    rw [List.length_cons, Nat.add_mul]; omega

set_option maxHeartbeats 400000 in
theorem long (v : Value) (n : Nat) (f : Nat → Nat) (fr tab : Nat) (w : World) (hv : IsArg w v n f) (hn : 100 < n) (hT : Lib.Utf8Tabs 0 1 w) :
    Calls Tryd.prog 13 #[v, .int .u8 fr, .int .u8 tab] w fun e w' => e = .returned (.bool true) ∧ Below w.heap.size w w' := by
  have cs := signs_any w hT
  have HT := hidden hT
  obtain ⟨ea, cap, rfl⟩ := hv.val
  have hnz : 100 < (n : Int) := by omega
  clear hT hv
  go_enter Tryd.func13, Tryd.ntmps13
  go_wp2_with fail
  refine cs.mono ?_
  rintro e w1 ⟨rfl, hb⟩
  have cs2 := signs_any w1 (tabs_below HT.out hb)
  go_wp2_with fail
  refine cs2.mono ?_
  rintro e w2 ⟨rfl, hb2⟩
  go_wp2
  go_ret
  exact ⟨rfl, hb.trans (hb2.mono hb.size)⟩

set_option maxHeartbeats 400000 in
theorem zero (v : Value) (n : Nat) (f : Nat → Nat) (fr : Nat) (w : World) (hv : IsArg w v n f) (hn : ¬ 100 < n) (hT : Lib.Utf8Tabs 0 1 w) :
    Calls Tryd.prog 13 #[v, .int .u8 fr, .int .u8 0] w fun e w' => e = .returned (.bool true) ∧ Below w.heap.size w w' := by
  have cs := signs_any w hT
  have HT := hidden hT
  obtain ⟨ea, cap, rfl⟩ := hv.val
  have hnz : ¬ (100 < (n : Int)) := by omega
  clear hT hv
  go_enter Tryd.func13, Tryd.ntmps13
  go_wp2_with fail
  refine cs.mono ?_
  rintro e w1 ⟨rfl, hb⟩
  have cs2 := signs_any w1 (tabs_below HT.out hb)
  go_wp2_with fail
  refine cs2.mono ?_
  rintro e w2 ⟨rfl, hb2⟩
  go_wp2
  go_ret
  exact ⟨rfl, hb.trans (hb2.mono hb.size)⟩

set_option maxHeartbeats 2000000 in
theorem some' (v : Value) (n : Nat) (f : Nat → Nat) (fr tab : Nat) (w : World) (hv : IsBytes w v n f) (hn : n ≤ 100) (hfr : fr < 256) (htab : tab < 256) (h1 : 1 ≤ tab) (hT : Lib.Utf8Tabs 0 1 w) :
    Calls Tryd.prog 13 #[v, .int .u8 fr, .int .u8 tab] w fun e w' => e = .returned (.bool true) ∧ Below w.heap.size w w' := by
  have cs := signs_any w hT
  have HT := hidden hT
  have HV := hidden hv
  have hnz : ¬ (100 < (n : Int)) := by omega
  have ht0 : ((tab : Int) == 0) = false := by simp; omega
  obtain ⟨va, vcap, rfl⟩ := isBytes_len hv
  obtain ⟨i0, hi, hz0, hz1, hz2⟩ := info_parts info5
  clear hT hv
  go_enter Tryd.func13, Tryd.ntmps13
  go_wp2_with fail
  refine cs.mono ?_
  rintro e w1 ⟨rfl, hb1⟩
  have HV1 := hidden (HV.out.below hb1)
  clear cs
  go_wp2
  go_loopw [7, 8] (fun x i wr => ∃ k : Nat, k ≤ n ∧ i = .int .i64 k ∧ Laid w1 wr x (someL f k)) (fun _ i _ => n - (intOf i).toNat)
  case atStart => exact ⟨0, Nat.zero_le _, rfl, World.ownsRow_nil _ _ _ _, Below.refl _ _⟩
  case round =>
    obtain ⟨k, hk, rfl, hl⟩ := hrel
    by_cases hlt : k < n
    · have hcs := (HV1.out.below hl.2).2.2
      rcases hcs with ⟨_, _, _, h0⟩ | ⟨b, off, cap, hve, _, hc⟩
      · omega
      have hcell := hc k hlt
      simp only [Value.slice.injEq] at hve
      obtain ⟨rfl, _, rfl⟩ := hve
      clear hc
      have hx := HV.out.1 k
      have hown := hl.1
      rw [someL_len] at hown
      have hsz := hl.2.size
      have Hl := hidden hl
      have HS := hidden (someL_succ f k)
      have HLen := hidden (someL_len f k)
      have hkz : (k : Int) < (n : Int) := by omega
      by_cases hp : f k % 2 = 0
      · have HP : Hid (pick f k = 32) := by unfold Hid pick; rw [if_pos hp]
        have hpz : ((f k : Int) % 2 == 0) = true := by simp; omega
        clear hl
        generalize f k = x at *
        go_wp2_with (at_builtin; refine wpList_append_own _ rfl _ _ 22 rfl w1.heap.size 5 i0 (.int .u8 0) 1 1 Tryd.underlying22 hi hz0 hz1 hz2 rfl (by decide) _ _ _ rfl (hown.alloc _) ⟨_, 0, none⟩ 1 1 [.int .u8 32] rfl rfl ?c1 ?c2 ?c3 ?c4 ?c5 ?_)
        case c1 =>
          intro j u hj
          match j, hj with
          | 0, hj => simp at hj; subst hj; simp [Addr.add]
        case c2 => intro u hu; simp at hu; subst hu; rfl
        case c3 => unfold maxLen; omega
        case c4 => omega
        case c5 => simp; omega
        intro v' w2 hown' hgrow _
        have HL := hidden (laid_next (c := 32) Hl.out (by rw [HLen.out]; exact hown') hgrow)
        clear hown' hgrow hown
        go_wp2
        go_roundw
        case rel => exact ⟨k + 1, by omega, by go_num, by rw [HS.out, HP.out]; exact HL.out⟩
        case measure => simp [intOf]; omega
      · have HP : Hid (pick f k = 9) := by unfold Hid pick; rw [if_neg hp]
        have hpz : ((f k : Int) % 2 == 0) = false := by simp; omega
        clear hl
        generalize f k = x at *
        go_wp2_with (at_builtin; refine wpList_append_own _ rfl _ _ 22 rfl w1.heap.size 5 i0 (.int .u8 0) 1 1 Tryd.underlying22 hi hz0 hz1 hz2 rfl (by decide) _ _ _ rfl (hown.alloc _) ⟨_, 0, none⟩ 1 1 [.int .u8 9] rfl rfl ?c1 ?c2 ?c3 ?c4 ?c5 ?_)
        case c1 =>
          intro j u hj
          match j, hj with
          | 0, hj => simp at hj; subst hj; simp [Addr.add]
        case c2 => intro u hu; simp at hu; subst hu; rfl
        case c3 => unfold maxLen; omega
        case c4 => omega
        case c5 => simp; omega
        intro v' w2 hown' hgrow _
        have HL := hidden (laid_next (c := 9) Hl.out (by rw [HLen.out]; exact hown') hgrow)
        clear hown' hgrow hown
        go_wp2
        go_roundw
        case rel => exact ⟨k + 1, by omega, by go_num, by rw [HS.out, HP.out]; exact HL.out⟩
        case measure => simp [intOf]; omega
    · have hkn : k = n := by omega
      subst hkn
      obtain ⟨S, hS⟩ : ∃ S, someL f k = S := ⟨_, rfl⟩
      have hSm := someL_mem f k
      have hSl := someL_len f k
      rw [hS] at hl hSm hSl
      have hS128 : ∀ c, c ∈ S → c < 128 := fun c hc => by have := hSm c hc; omega
      have B2 : IsBytes wr u7 S.length (fun j => S.getD j 0) := isBytes_own (fun c hc => by have := hSm c hc; omega) (by omega) hl.1
      obtain ⟨to, hto⟩ : ∃ to, lead' tab S fr = to := ⟨_, rfl⟩
      have htob : to ≤ 30000 := by
        have a1 := lead_le h1 S fr
        have a2 : S.length * tab ≤ 100 * 255 := Nat.mul_le_mul (by omega) (by omega)
        omega
      have hge := lead_ge' h1 S fr
      have Hleast : Hid ((fll fr to tab false).length ≤ S.length) := by unfold Hid; rw [← hto]; exact fll_least h1 S fr hSm
      have hw2 : wide (fun j => S.getD j 0) S.length fr tab = to := by rw [wide_lead hS128]; exact hto
      have Hbw : Hid (Below w.heap.size w wr) := hb1.trans (hl.2.mono hb1.size)
      have T2 := tabs_below HT.out Hbw.out
      have c2 := wide_any u7 (fun j => S.getD j 0) S.length fr tab wr (by omega) T2 B2 (by omega) h1 (by omega)
      rw [hw2] at c2
      have HB2 := hidden B2
      have HT2 := hidden T2
      have Hge : Hid (fr ≤ to) := by unfold Hid; rw [← hto]; exact hge
      obtain ⟨sa, scap, hu⟩ := isBytes_len B2
      rw [hSl] at hu
      clear hl hSm hS128 B2 T2 hw2 hto hge hS hb1
      subst hu
      have hsl := hidden hSl
      clear hSl
      go_wp2_with fail
      refine c2.mono ?_
      rintro e w3 ⟨rfl, hb3⟩
      have Hb3 := hidden (Hbw.out.trans (hb3.mono Hbw.out.size))
      have c3 := fill_any fr to tab false w3 (by omega) (by omega) h1 (by omega)
      have HT3 := hidden (tabs_below HT2.out hb3)
      clear c2 hb3
      go_wp2_with fail
      refine c3.mono ?_
      rintro e w4 ⟨vf, rfl, hlf⟩
      have hblk := fll_blank fr to tab false h1
      have hld := fll_leads fr to tab false h1 Hge.out
      have hln := fll_len fr to tab false h1
      have hle := Hleast.out
      obtain ⟨F, hF⟩ : ∃ F, fll fr to tab false = F := ⟨_, rfl⟩
      rw [hF] at hlf hblk hld hln hle
      have B4 : IsBytes w4 vf F.length (fun j => F.getD j 0) := isBytes_own (fun c hc => by have := (hblk c hc).1; omega) (by omega) hlf.1
      have hw4 : wide (fun j => F.getD j 0) F.length fr tab = to := by rw [wide_lead (fun c hc => by have := (hblk c hc).1; omega)]; exact hld
      have c4 := wide_any vf (fun j => F.getD j 0) F.length fr tab w4 (by omega) (tabs_below HT3.out hlf.2) B4 (by omega) h1 (by omega)
      rw [hw4] at c4
      obtain ⟨fa, fcap, hu⟩ := isBytes_len B4
      have Hb4 := hidden (Hb3.out.trans (hlf.2.mono Hb3.out.size))
      obtain ⟨M, hM⟩ : ∃ M, F.length = M := ⟨_, rfl⟩
      rw [hM] at hu hle
      rw [hsl.out] at hle
      clear hlf hblk hld hln B4 hw4 hF hM c3
      subst hu
      have hlez : (M : Int) ≤ (k : Int) := by omega
      go_wp2_with fail
      refine c4.mono ?_
      rintro e w5 ⟨rfl, hb5⟩
      go_wp2
      go_ret
      exact ⟨rfl, Hb4.out.trans (hb5.mono Hb4.out.size)⟩

theorem law (v : Value) (n : Nat) (f : Nat → Nat) (fr tab : Nat) (w : World) (hv : IsArg w v n f) (hfr : fr < 256) (htab : tab < 256) (hT : Lib.Utf8Tabs 0 1 w) :
    Calls Tryd.prog 13 #[v, .int .u8 fr, .int .u8 tab] w fun e w' => e = .returned (.bool true) ∧ Below w.heap.size w w' := by
  by_cases hn : 100 < n
  · exact long v n f fr tab w hv hn hT
  by_cases h : tab = 0
  · subst h; exact zero v n f fr w hv hn hT
  · exact some' v n f fr tab w (hv.bytes (by omega)) (by omega) hfr htab (by omega) hT

set_option maxRecDepth 100000 in
theorem lifted (os : Os) (started : os.Started) (H : Type) (enc : TypeId × Value → H) :
    ReturnsInHanded {} Tryd.checked os 13 .any (fun w args => (Rows.glyphLeastSpec.pre enc Tryd.prog Tryd.f13 [] false w args ∧ laidMetH Tryd.prog laid w) ∧ sizedMet enc Tryd.prog Tryd.f13 (OpenSpec.ofChange Rows.glyphLeastSpec) false w args)
      (Rows.glyphLeastSpec.post enc Tryd.prog Tryd.f13 false true false false) := by
  refine returnsInHanded_of_change_and (C := Tryd.checked) (X := fun w _ => laidMetH Tryd.prog laid w) (fun _ _ _ hh h => h.of_heap hh) own started (by kernel_rfl) Tryd.func13
    (ChangeSpec.witness_shaped (enc := enc) (C := Tryd.checked) (os := os) (X := fun w _ => laidMetH Tryd.prog laid w) false (World.laidAll Tryd.prog os laid) #[.slice none 0 0, .int .u8 0, .int .u8 0] 8 (World.laidAll_os _ _ _)
      (World.shaped_of_ZipB (by kernel_rfl) (by kernel_rfl)) (by kernel_rfl) (by kernel_rfl) (by kernel_rfl) (laid_world os _)) ?_
  intro W base args ds gs before hval0 hW _ _ hL _
  have hval : ∀ (j : Nat) t v, Tryd.f13.params[j]? = some t → args[j]? = some v → Value.okWide Tryd.prog W .any base t v := hval0
  have hW' := hW
  obtain ⟨p, q, hA0, hV, rfl, _, _⟩ := hW
  have hA : DataW.TrodAll enc Tryd.prog W 0 (fun _ => true) true Tryd.f13.params.toList args.toList ds p := hA0
  rw [Tryd.params13] at hA hval
  obtain ⟨v0, vs0, d0, ds0, p0, q0, hargs, rfl, rfl, h0, r0⟩ := trodAll_cons hA
  obtain ⟨v1, vs1, d1, ds1, p1, q1, rfl, rfl, rfl, h1, r1⟩ := trodAll_cons r0
  obtain ⟨v2, vs2, d2, ds2, p2, q2, rfl, rfl, rfl, h2, r2⟩ := trodAll_cons r1
  obtain ⟨rfl, rfl, rfl⟩ := trodAll_nil r2
  obtain rfl : args = #[v0, v1, v2] := by cases args; simp_all
  obtain ⟨rfl, rfl⟩ := trodVars_none hV
  have lt0 : ∀ x ∈ p0, x.block < W.heap.size := by obtain ⟨m, hm⟩ := h0; exact DataW.trod_lt m _ _ _ hm
  obtain ⟨n0, f0, g0⟩ := open_bytes (hval 0 22 v0 rfl rfl) h0
  obtain ⟨x1, rfl, rfl, rfl, w1⟩ := open_int Tryd.underlying5 (hval 1 5 v1 rfl rfl) h1
  have b1 : 0 ≤ x1 ∧ x1 ≤ 255 := by simpa [Lit.wf, IntKind.min, IntKind.max, IntKind.signed, IntKind.bits] using w1
  obtain ⟨c1, rfl⟩ := Int.eq_ofNat_of_zero_le b1.1
  obtain ⟨x2, rfl, rfl, rfl, w2⟩ := open_int Tryd.underlying5 (hval 2 5 v2 rfl rfl) h2
  have b2 : 0 ≤ x2 ∧ x2 ≤ 255 := by simpa [Lit.wf, IntKind.min, IntKind.max, IntKind.signed, IntKind.bits] using w2
  obtain ⟨c2, rfl⟩ := Int.eq_ofNat_of_zero_le b2.1
  clear hA0 hval0
  simp only [List.append_nil] at hW'
  refine (law v0 n0 f0 c1 c2 W g0 (by omega) (by omega) (tabs_of_laid hL)).mono fun e W' ⟨he, bel⟩ => ?_
  subst he
  exact ⟨_, rfl, _, _, _, [], _, [], hW', trodAll_mk1 (shut_bool Tryd.underlying4 _), (trodAll_cons_mk (Below.trod laidOut (by kernel_rfl) (of_decide_eq_true (by kernel_rfl)) h0 bel lt0) (trodAll_cons_mk (shut_int Tryd.underlying5 w1) (trodAll_cons_mk (shut_int Tryd.underlying5 w2) trodAll_mk0))), rfl, bel.frame _, fun h => by cases h⟩

theorem said : Rows.GlyphLeastSaid :=
  OpenClaim.holds_of_wide 13 Tryd.f13 rfl rfl rfl rfl rfl rfl rfl ⟨rfl, rfl, rfl, rfl, rfl⟩ rfl rfl rfl rfl rfl (by kernel_rfl) Tryd.func13 (by kernel_rfl)
    (of_decide_eq_true (by kernel_rfl)) (by unfold Func.isWrapper; first | (rw [if_pos (by decide +kernel)]; kernel_rfl) | (rw [if_neg (by decide +kernel)]; exact ⟨rfl, rfl⟩))
    (fun os started H enc _ => lifted os started H enc)

theorem plain (f : FuncId) (fn : Func) (hf : Tryd.pinned.checked.prog.funcNamed Tryd.f13.name = some f) (hfn : Tryd.pinned.checked.prog.funcs[f]? = some fn) :
    false = Tryd.pinned.checked.prog.looks [] ∧ ∀ (j : Nat) t, fn.params[j]? = some t → Tryd.pinned.checked.prog.wantsStandIn t = false := by
  obtain rfl : f = 13 := Option.some.inj ((show Tryd.prog.funcNamed Tryd.f13.name = some 13 by kernel_rfl).symm.trans hf) |>.symm
  obtain rfl : fn = Tryd.f13 := (Option.some.inj (Tryd.func13.symm.trans hfn)).symm
  refine ⟨by kernel_rfl, fun j t ht => ?_⟩
  rw [Tryd.params13] at ht
  have hm : t ∈ [22, 5, 5] := by simpa using Array.mem_of_getElem? ht
  have hall : ([22, 5, 5].all fun u => !Tryd.prog.wantsStandIn u) = true := by kernel_rfl
  exact (show Tryd.prog.wantsStandIn t = false from Bool.not_eq_true' _ |>.mp (List.all_eq_true.1 hall t hm))

theorem card : Rows.GlyphLeastCardSaid :=
  Claim7.holds_tied_plain_at .later [] _ _ _ _ said (fun _ h => by cases h) (by kernel_rfl) (fun _ h => by cases h) glyphLeast_row_tie rfl ⟨rfl, rfl⟩ (by kernel_rfl) rfl plain (by kernel_rfl)
#print axioms card
end Go.Proofs.YtlceplcjjhliaaaDoor.Least
