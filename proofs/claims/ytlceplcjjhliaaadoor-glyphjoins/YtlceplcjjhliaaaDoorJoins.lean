/- GlyphJoins is true of any two texts: one behind the other they have as many signs as both, or up to three fewer; as many as the document's Starts finds. No condition but the card's own: Go's two tables of unicode/utf8 hold what the library's text lays. -/
import Derived.Test.YtlceplcjjhliaaaDoorArgs
import Derived.Test.YtlceplcjjhliaaaDoorCallsM
import Derived.Test.YtlceplcjjhliaaaDoorCards
import Derived.Test.YtlceplcjjhliaaaDoorTie
namespace Go.Proofs.YtlceplcjjhliaaaDoor.Joins
open Go.ChangeShapes Go.WideShapes Go.ChangeAt Go.RowKit Go.Proofs.PlatenGlyph
set_option linter.unusedVariables false

theorem open_src {H : Type} {enc : TypeId × Value → H} {W : World} {base : Nat} {v : Value} {d : DataW H} {p : List MemPlace} (hv : Value.okWide Tryd.prog W .any base 22 v)
    (h : DataW.Trod enc Tryd.prog W 0 (fun _ => true) true 22 v d p) : ∃ n f, IsArg W v n f ∧ Src W v n f := by
  obtain ⟨n, f, g⟩ := open_bytes hv h
  refine ⟨n, f, g, ?_⟩
  rcases g.2.2 with ⟨a, cap, rfl, rfl⟩ | ⟨b, off, cap, rfl, _, hc⟩
  · cases a with
    | none =>
      obtain ⟨fuel, hf⟩ := h
      rcases open_ints Tryd.underlying22 Tryd.underlying5 c5 hf with ⟨hcs, _⟩ | ⟨x, l, c, zs, hcs, _, _, _, _, _, _, _⟩
      · simp [Value.cells] at hcs
        subst hcs
        exact Or.inl ⟨rfl, rfl⟩
      · simp [Value.cells] at hcs
    | some x => exact src_empty x cap f
  · exact src_row hc

def both (f g : Nat → Nat) (n m : Nat) : Nat → Nat := fun j => (listOf f n ++ listOf g m).getD j 0
theorem both_len (f g : Nat → Nat) (n m : Nat) : (listOf f n ++ listOf g m).length = n + m := by rw [List.length_append, listOf_len, listOf_len]
theorem both_left {f g : Nat → Nat} {n m j : Nat} (h : j < n) : both f g n m j = f j := by
  unfold both
  rw [List.getD_eq_getElem?_getD, List.getElem?_append_left (by rw [listOf_len]; exact h), ← List.getD_eq_getElem?_getD, listOf_getD h]
theorem both_right {f g : Nat → Nat} {n m j : Nat} (h : j < m) : both f g n m (n + j) = g j := by
  unfold both
  rw [List.getD_eq_getElem?_getD, List.getElem?_append_right (by rw [listOf_len]; omega), listOf_len, Nat.add_sub_cancel_left, ← List.getD_eq_getElem?_getD, listOf_getD h]

theorem both_cnt (f g : Nat → Nat) (n m : Nat) : cnt (both f g n m) (n + m) ≤ cnt f n + cnt g m ∧ cnt f n + cnt g m ≤ cnt (both f g n m) (n + m) + 3 := by
  have h := join_cnt (both f g n m) n (n + m) (by omega)
  rw [cnt_congr (f := both f g n m) (g := f) (n := n) (fun j hj => both_left hj)] at h
  rw [Nat.add_sub_cancel_left] at h
  rw [cnt_congr (f := fun j => both f g n m (n + j)) (g := g) (n := m) (fun j hj => both_right hj)] at h
  exact h

set_option maxHeartbeats 400000 in
theorem long (v v' : Value) (n m : Nat) (f g : Nat → Nat) (w : World) (hv : IsArg w v n f) (hv' : IsArg w v' m g) (hn : 200 < n ∨ (¬ 200 < n ∧ 200 < m)) (hT : Lib.Utf8Tabs 0 1 w) :
    Calls Tryd.prog 7 #[v, v'] w fun e w' => e = .returned (.bool true) ∧ Below w.heap.size w w' := by
  have cs := signs_any w hT
  have HT := hidden hT
  obtain ⟨ea, cap, rfl⟩ := hv.val
  obtain ⟨ea', cap', rfl⟩ := hv'.val
  clear hT hv hv'
  rcases hn with hn | ⟨hn, hm⟩
  · have hnz : 200 < (n : Int) := by omega
    go_enter Tryd.func7, Tryd.ntmps7
    go_wp2_with fail
    refine cs.mono ?_
    rintro e w1 ⟨rfl, hb⟩
    have cs2 := signs_any w1 (tabs_below HT.out hb)
    go_wp2_with fail
    refine cs2.mono ?_
    rintro e w2 ⟨rfl, hb2⟩
    go_wp2
    go_ret
    exact ⟨rfl, hb.trans (hb2.mono hb.size)⟩
  · have hnz : ¬ (200 < (n : Int)) := by omega
    have hmz : 200 < (m : Int) := by omega
    go_enter Tryd.func7, Tryd.ntmps7
    go_wp2_with fail
    refine cs.mono ?_
    rintro e w1 ⟨rfl, hb⟩
    have cs2 := signs_any w1 (tabs_below HT.out hb)
    go_wp2_with fail
    refine cs2.mono ?_
    rintro e w2 ⟨rfl, hb2⟩
    go_wp2
    go_ret
    exact ⟨rfl, hb.trans (hb2.mono hb.size)⟩

set_option maxHeartbeats 1000000 in
theorem short (v v' : Value) (n m : Nat) (f g : Nat → Nat) (w : World) (hv : IsArg w v n f) (hv' : IsArg w v' m g) (hs : Src w v n f) (hs' : Src w v' m g) (hn : n ≤ 200) (hm : m ≤ 200) (hT : Lib.Utf8Tabs 0 1 w) :
    Calls Tryd.prog 7 #[v, v'] w fun e w' => e = .returned (.bool true) ∧ Below w.heap.size w w' := by
  have cs := signs_any w hT
  have hnz : ¬ (200 < (n : Int)) := by omega
  have hmz : ¬ (200 < (m : Int)) := by omega
  have hf := hv.1
  have hg := hv'.1
  have HV := hidden (hv.bytes (by omega))
  have HV' := hidden (hv'.bytes (by omega))
  have HS := hidden hs
  have HS' := hidden hs'
  have Hcn := hidden (both_cnt f g n m)
  have hb1 := cnt_le f n
  have hb2 := cnt_le g m
  have hb3 := cnt_le (both f g n m) (n + m)
  have mk : ∀ (u u' : World) (x : Value), Laid u u' x (listOf f n ++ listOf g m) → IsBytes u' x (n + m) (both f g n m) := fun u u' x hl => by
    have := isBytes_own (fun c hc => by
      rcases List.mem_append.1 hc with hc | hc
      · exact listOf_mem hf n c hc
      · exact listOf_mem hg m c hc) (by rw [both_len]; omega) hl.1
    rw [both_len] at this
    exact this
  have HMk := hidden mk
  obtain ⟨ea, ecap, rfl⟩ := hv.val
  obtain ⟨ea', ecap', rfl⟩ := hv'.val
  clear hT hv hv' hs hs' hf hg mk
  go_enter Tryd.func7, Tryd.ntmps7
  go_wp2_with fail
  refine cs.mono ?_
  rintro e w1 ⟨rfl, b1⟩
  have c1 := count_any _ f n w1 (HV.out.below b1)
  clear cs
  go_wp2_with fail
  refine c1.mono ?_
  rintro e w2 ⟨rfl, b2⟩
  have B2 := hidden (b1.trans (b2.mono b1.size))
  have c2 := count_any _ g m w2 (HV'.out.below B2.out)
  clear c1 b1 b2
  go_wp2_with fail
  refine c2.mono ?_
  rintro e w3 ⟨rfl, b3⟩
  have B3 := hidden (B2.out.trans (b3.mono B2.out.size))
  have c3 := join_any _ _ n m f g w3 (by omega) (by omega) (HS.out.below B3.out) (HS'.out.below B3.out)
  clear c2 b3
  go_wp2_with fail
  refine c3.mono ?_
  rintro e w4 ⟨x, rfl, hl⟩
  have HX := hidden (HMk.out _ _ _ hl)
  have B4 := hidden (B3.out.trans (hl.2.mono B3.out.size))
  have c4 := count_any x (both f g n m) (n + m) w4 HX.out
  clear c3 hl
  go_wp2_with fail
  refine c4.mono ?_
  rintro e w5 ⟨rfl, b5⟩
  have B5 := hidden (B4.out.trans (b5.mono B4.out.size))
  have c5 := join_any _ _ n m f g w5 (by omega) (by omega) (HS.out.below B5.out) (HS'.out.below B5.out)
  have hle := Hcn.out
  obtain ⟨A, hA⟩ : ∃ A, cnt (both f g n m) (n + m) = A := ⟨_, rfl⟩
  have HA := hidden hA
  rw [hA] at hle hb3
  rw [hA]
  clear hA c4 b5
  generalize cnt f n = X at *
  generalize cnt g m = Y at *
  have g1 : (A : Int) ≤ (X : Int) + (Y : Int) := by omega
  have g2 : (A : Int) ≥ (X : Int) + (Y : Int) - 3 := by omega
  go_wp2_with fail
  refine c5.mono ?_
  rintro e w6 ⟨y, rfl, hl⟩
  have HY := hidden (HMk.out _ _ _ hl)
  have B6 := hidden (B5.out.trans (hl.2.mono B5.out.size))
  have c6 := starts_any y (both f g n m) (n + m) w6 (by omega) HY.out
  rw [HA.out] at c6
  clear c5 hl
  go_wp2_with fail
  refine c6.mono ?_
  rintro e w7 ⟨z, rfl, hz, b7⟩
  have hzv : ∃ za zc, z = .slice za A zc := by
    rcases hz with ⟨rfl, h0⟩ | ⟨gg, cc, rfl, _⟩
    · exact ⟨none, 0, by rw [h0]⟩
    · exact ⟨_, _, rfl⟩
  obtain ⟨za, zc, rfl⟩ := hzv
  have B7 := hidden (B6.out.trans (b7.mono B6.out.size))
  clear c6 hz b7
  go_wp2
  go_ret
  exact ⟨rfl, B7.out⟩

theorem law (v : Value) (n : Nat) (f : Nat → Nat) (v' : Value) (m : Nat) (g : Nat → Nat) (w : World) (hv : IsArg w v n f ∧ Src w v n f) (hv' : IsArg w v' m g ∧ Src w v' m g) (hT : Lib.Utf8Tabs 0 1 w) :
    Calls Tryd.prog 7 #[v, v'] w fun e w' => e = .returned (.bool true) ∧ Below w.heap.size w w' := by
  by_cases hn : 200 < n
  · exact long v v' n m f g w hv.1 hv'.1 (Or.inl hn) hT
  by_cases hm : 200 < m
  · exact long v v' n m f g w hv.1 hv'.1 (Or.inr ⟨hn, hm⟩) hT
  · exact short v v' n m f g w hv.1 hv'.1 hv.2 hv'.2 (by omega) (by omega) hT

set_option maxRecDepth 100000 in
theorem lifted (os : Os) (started : os.Started) (H : Type) (enc : TypeId × Value → H) :
    ReturnsInHanded {} Tryd.checked os 7 .any (fun w args => (Rows.glyphJoinsSpec.pre enc Tryd.prog Tryd.f7 [] false w args ∧ laidMetH Tryd.prog laid w) ∧ sizedMet enc Tryd.prog Tryd.f7 (OpenSpec.ofChange Rows.glyphJoinsSpec) false w args)
      (Rows.glyphJoinsSpec.post enc Tryd.prog Tryd.f7 false true false false) := by
  refine returnsInHanded_of_change_and (C := Tryd.checked) (X := fun w _ => laidMetH Tryd.prog laid w) (fun _ _ _ hh h => h.of_heap hh) own started (by kernel_rfl) Tryd.func7
    (ChangeSpec.witness_shaped (enc := enc) (C := Tryd.checked) (os := os) (X := fun w _ => laidMetH Tryd.prog laid w) false (World.laidAll Tryd.prog os laid) #[.slice none 0 0, .slice none 0 0] 8 (World.laidAll_os _ _ _)
      (World.shaped_of_ZipB (by kernel_rfl) (by kernel_rfl)) (by kernel_rfl) (by kernel_rfl) (by kernel_rfl) (laid_world os _)) ?_
  intro W base args ds gs before hval0 hW _ _ hL _
  have hval : ∀ (j : Nat) t v, Tryd.f7.params[j]? = some t → args[j]? = some v → Value.okWide Tryd.prog W .any base t v := hval0
  have hW' := hW
  obtain ⟨p, q, hA0, hV, rfl, _, _⟩ := hW
  have hA : DataW.TrodAll enc Tryd.prog W 0 (fun _ => true) true Tryd.f7.params.toList args.toList ds p := hA0
  rw [Tryd.params7] at hA hval
  obtain ⟨v0, vs0, d0, ds0, p0, q0, hargs, rfl, rfl, h0, r0⟩ := trodAll_cons hA
  obtain ⟨v1, vs1, d1, ds1, p1, q1, rfl, rfl, rfl, h1, r1⟩ := trodAll_cons r0
  obtain ⟨rfl, rfl, rfl⟩ := trodAll_nil r1
  obtain rfl : args = #[v0, v1] := by cases args; simp_all
  obtain ⟨rfl, rfl⟩ := trodVars_none hV
  have lt0 : ∀ x ∈ p0, x.block < W.heap.size := by obtain ⟨m, hm⟩ := h0; exact DataW.trod_lt m _ _ _ hm
  obtain ⟨n0, f0, g0⟩ := open_src (hval 0 22 v0 rfl rfl) h0
  have lt1 : ∀ x ∈ p1, x.block < W.heap.size := by obtain ⟨m, hm⟩ := h1; exact DataW.trod_lt m _ _ _ hm
  obtain ⟨n1, f1, g1⟩ := open_src (hval 1 22 v1 rfl rfl) h1
  clear hA0 hval0
  simp only [List.append_nil] at hW'
  refine (law v0 n0 f0 v1 n1 f1 W g0 g1 (tabs_of_laid hL)).mono fun e W' ⟨he, bel⟩ => ?_
  subst he
  exact ⟨_, rfl, _, _, _, [], _, [], hW', trodAll_mk1 (shut_bool Tryd.underlying4 _), (trodAll_cons_mk (Below.trod laidOut (by kernel_rfl) (of_decide_eq_true (by kernel_rfl)) h0 bel lt0) (trodAll_cons_mk (Below.trod laidOut (by kernel_rfl) (of_decide_eq_true (by kernel_rfl)) h1 bel lt1) trodAll_mk0)), rfl, bel.frame _, fun h => by cases h⟩

theorem said : Rows.GlyphJoinsSaid :=
  OpenClaim.holds_of_wide 7 Tryd.f7 rfl rfl rfl rfl rfl rfl rfl ⟨rfl, rfl, rfl, rfl, rfl⟩ rfl rfl rfl rfl rfl (by kernel_rfl) Tryd.func7 (by kernel_rfl)
    (of_decide_eq_true (by kernel_rfl)) (by unfold Func.isWrapper; first | (rw [if_pos (by decide +kernel)]; kernel_rfl) | (rw [if_neg (by decide +kernel)]; exact ⟨rfl, rfl⟩))
    (fun os started H enc _ => lifted os started H enc)

theorem plain (f : FuncId) (fn : Func) (hf : Tryd.pinned.checked.prog.funcNamed Tryd.f7.name = some f) (hfn : Tryd.pinned.checked.prog.funcs[f]? = some fn) :
    false = Tryd.pinned.checked.prog.looks [] ∧ ∀ (j : Nat) t, fn.params[j]? = some t → Tryd.pinned.checked.prog.wantsStandIn t = false := by
  obtain rfl : f = 7 := Option.some.inj ((show Tryd.prog.funcNamed Tryd.f7.name = some 7 by kernel_rfl).symm.trans hf) |>.symm
  obtain rfl : fn = Tryd.f7 := (Option.some.inj (Tryd.func7.symm.trans hfn)).symm
  refine ⟨by kernel_rfl, fun j t ht => ?_⟩
  rw [Tryd.params7] at ht
  have hm : t ∈ [22, 22] := by simpa using Array.mem_of_getElem? ht
  have hall : ([22, 22].all fun u => !Tryd.prog.wantsStandIn u) = true := by kernel_rfl
  exact (show Tryd.prog.wantsStandIn t = false from Bool.not_eq_true' _ |>.mp (List.all_eq_true.1 hall t hm))

theorem card : Rows.GlyphJoinsCardSaid :=
  Claim7.holds_tied_plain_at .later [] _ _ _ _ said (fun _ h => by cases h) (by kernel_rfl) (fun _ h => by cases h) glyphJoins_row_tie rfl ⟨rfl, rfl⟩ (by kernel_rfl) rfl plain (by kernel_rfl)
#print axioms card
end Go.Proofs.YtlceplcjjhliaaaDoor.Joins
