/- LeaderStays is true of any two texts: a line's head and gap, put ahead of a word that is no mark, are that line's head and gap. No condition but the card's own: the program's table of marks holds what its text lays. -/
import Derived.Test.YtglgcbocpdenhabDoorLdD
import Derived.Test.YtglgcbocpdenhabDoorCards
import Derived.Test.YtglgcbocpdenhabDoorTie
namespace Go.Proofs.YtglgcbocpdenhabDoor.Stays
open Go.ChangeShapes Go.WideShapes Go.ChangeAt Go.ChangeMaps Go.RowKit Go.Proofs.PlatenLeader
set_option linter.unusedVariables false

set_option maxHeartbeats 1000000 in
theorem long (s q : ByteArray) (w : World) (hs : s.size ≤ maxLen) (hq : q.size ≤ maxLen) (hn : 200 < s.size ∨ 200 < q.size) (hM : MK w) :
    Calls Tryd.prog 6 #[.string s, .string q] w fun e w' => e = .returned (.bool true) ∧ Below w.heap.size w w' := by
  have cs := ex_any w hM
  have HM := hidden hM
  unfold maxLen at hs hq
  clear hM
  by_cases h1 : 200 < s.size
  · have hnz : 200 < (s.size : Int) := by omega
    clear hn
    go_enter Tryd.func6, Tryd.ntmps6
    go_wp2_with fail
    refine cs.mono ?_
    rintro e w1 ⟨rfl, hb⟩
    have cs2 := ex_any w1 (HM.out.below hb)
    go_wp2_with fail
    refine cs2.mono ?_
    rintro e w2 ⟨rfl, hb2⟩
    go_wp2
    go_ret
    exact ⟨rfl, hb.trans (hb2.mono hb.size)⟩
  · have hnz : ¬ (200 < (s.size : Int)) := by omega
    have hqz : 200 < (q.size : Int) := by omega
    clear hn
    go_enter Tryd.func6, Tryd.ntmps6
    go_wp2_with fail
    refine cs.mono ?_
    rintro e w1 ⟨rfl, hb⟩
    have cs2 := ex_any w1 (HM.out.below hb)
    go_wp2_with fail
    refine cs2.mono ?_
    rintro e w2 ⟨rfl, hb2⟩
    go_wp2
    go_ret
    exact ⟨rfl, hb.trans (hb2.mono hb.size)⟩

set_option maxHeartbeats 2000000 in
theorem short (s q : ByteArray) (w : World) (hn : s.size ≤ 200) (hqn : q.size ≤ 200) (hM : MK w) :
    Calls Tryd.prog 6 #[.string s, .string q] w fun e w' => e = .returned (.bool true) ∧ Below w.heap.size w w' := by
  have cs := ex_any w hM
  have hnz : ¬ (200 < (s.size : Int)) := by omega
  have hqz : ¬ (200 < (q.size : Int)) := by omega
  have HM := hidden hM
  have hl := hd_len (L s)
  rw [len_L] at hl
  have hxq : (⟨#[120]⟩ : ByteArray) ++ q = S (120 :: L q) := by
    show S [120] ++ S (L q) = _
    rw [ByteArray.mk_append_mk]; rfl
  have m2 : ∀ w2, Calls Tryd.prog 14 #[.string (S (hd (L s)))] w2 fun e w' => e = .returned (.bool (!bareB (hd (L s)))) ∧ Below w2.heap.size w2 w' := fun w2 =>
    rmarked_any (S (hd (L s))) w2 (by show (hd (L s)).length ≤ _; omega)
  have m3 : ¬ (bareB (hd (L s)) = false ∧ gp (L s) = []) → ∀ w2, MK w2 → Calls Tryd.prog 11 #[.string (S (hd (L s) ++ gp (L s) ++ 120 :: L q))] w2 fun e w' => e = .returned (.tuple #[.string (S (hd (L s))), .string (S (gp (L s))), .string (S (120 :: L q))]) ∧ Below w2.heap.size w2 w' := fun h w2 h2 => by
    have := of_any (S (hd (L s) ++ gp (L s) ++ 120 :: L q)) w2 (by show (hd (L s) ++ gp (L s) ++ 120 :: L q).length ≤ _; simp only [List.length_append, List.length_cons, len_L]; omega) h2
    obtain ⟨a1, a2, a3⟩ := stays (L s) (L q) h
    rw [show L (S (hd (L s) ++ gp (L s) ++ 120 :: L q)) = hd (L s) ++ gp (L s) ++ 120 :: L q from rfl, a1, a2, a3] at this
    exact this
  have hs1 : (hd (L s)).length + (gp (L s)).length ≤ 200 := by omega
  have hs2 : (L q).length ≤ 200 := hqn
  have hx : ∀ a b : List UInt8, S a ++ S b ++ S (120 :: L q) = S (a ++ b ++ 120 :: L q) := fun a b => by rw [ByteArray.mk_append_mk, ByteArray.mk_append_mk]
  have HX := hidden (hx (hd (L s)) (gp (L s)))
  clear hM hl hx
  generalize L q = x at *
  have c1 : ∀ w2, MK w2 → Calls Tryd.prog 11 #[.string s] w2 fun e w' => e = .returned (.tuple #[.string (S (hd (L s))), .string (S (gp (L s))), .string (S (rs (L s)))]) ∧ Below w2.heap.size w2 w' := fun w2 h2 => of_any s w2 (by omega) h2
  generalize rs (L s) = r at *
  generalize hd (L s) = a at *
  generalize gp (L s) = g at *
  go_enter Tryd.func6, Tryd.ntmps6
  go_wp2_with fail
  refine cs.mono ?_
  rintro e w1 ⟨rfl, hb1⟩
  have M1 := HM.out.below hb1
  have HB1 := hidden hb1
  have d1 := c1 w1 M1
  have HM1 := hidden M1
  clear cs hb1 c1 M1
  go_wp2_with fail
  refine d1.mono ?_
  rintro e w2 ⟨rfl, hb2⟩
  have HB2 := hidden (HB1.out.trans (hb2.mono HB1.out.size))
  have HM2 := hidden (HM1.out.below hb2)
  have d2 := m2 w2
  clear d1 hb2 m2
  cases hy : bareB a with
  | true =>
    rw [hy] at d2
    have m4 := m3 (by rw [hy]; intro h; cases h.1)
    clear m3 hy
    go_wp2_with fail
    refine d2.mono ?_
    rintro e w3 ⟨rfl, hb3⟩
    have HB3 := hidden (HB2.out.trans (hb3.mono HB2.out.size))
    have d3 := m4 w3 (HM2.out.below hb3)
    rw [← HX.out] at d3
    clear d2 hb3 m4
    go_wp2_with fail
    refine d3.mono ?_
    rintro e w4 ⟨rfl, hb4⟩
    have HB4 := hidden (HB3.out.trans (hb4.mono HB3.out.size))
    clear d3 hb4
    go_wp2
    go_ret
    exact ⟨rfl, HB4.out⟩
  | false =>
    rw [hy] at d2
    by_cases hg : g = []
    · subst hg
      clear m3 hy
      go_wp2_with fail
      refine d2.mono ?_
      rintro e w3 ⟨rfl, hb3⟩
      have HB3 := hidden (HB2.out.trans (hb3.mono HB2.out.size))
      clear d2 hb3
      go_wp2
      go_ret
      exact ⟨rfl, HB3.out⟩
    · have m4 := m3 (fun h => hg h.2)
      have hgb : (g == []) = false := by simpa using hg
      clear m3 hy hg
      go_wp2_with fail
      refine d2.mono ?_
      rintro e w3 ⟨rfl, hb3⟩
      have HB3 := hidden (HB2.out.trans (hb3.mono HB2.out.size))
      have d3 := m4 w3 (HM2.out.below hb3)
      rw [← HX.out] at d3
      clear d2 hb3 m4
      go_wp2_with fail
      refine d3.mono ?_
      rintro e w4 ⟨rfl, hb4⟩
      have HB4 := hidden (HB3.out.trans (hb4.mono HB3.out.size))
      clear d3 hb4
      go_wp2
      go_ret
      exact ⟨rfl, HB4.out⟩

theorem law (s q : ByteArray) (w : World) (hs : s.size ≤ maxLen) (hq : q.size ≤ maxLen) (hM : MK w) :
    Calls Tryd.prog 6 #[.string s, .string q] w fun e w' => e = .returned (.bool true) ∧ Below w.heap.size w w' := by
  by_cases hn : 200 < s.size ∨ 200 < q.size
  · exact long s q w hs hq hn hM
  · exact short s q w (by omega) (by omega) hM

set_option maxRecDepth 100000 in
theorem lifted (os : Os) (started : os.Started) (H : Type) (enc : TypeId × Value → H) :
    ReturnsInHanded {} Tryd.checked os 6 .any (fun w args => (Rows.leaderStaysSpec.pre enc Tryd.prog Tryd.f6 [] false w args ∧ laidMetH Tryd.prog laid w) ∧ sizedMet enc Tryd.prog Tryd.f6 (OpenSpec.ofChange Rows.leaderStaysSpec) false w args)
      (Rows.leaderStaysSpec.post enc Tryd.prog Tryd.f6 false true false false) := by
  refine returnsInHanded_of_change_and (C := Tryd.checked) (X := fun w _ => laidMetH Tryd.prog laid w) (fun _ _ _ hh h => h.of_heap hh) own started (by kernel_rfl) Tryd.func6
    (ChangeSpec.witness_shaped (enc := enc) (C := Tryd.checked) (os := os) (X := fun w _ => laidMetH Tryd.prog laid w) false (World.laidAll Tryd.prog os laid) #[.string ByteArray.empty, .string ByteArray.empty] 8 (World.laidAll_os _ _ _)
      (World.shaped_of_ZipB (by kernel_rfl) (by kernel_rfl)) (by kernel_rfl) (by kernel_rfl) (by kernel_rfl) (laid_world os _)) ?_
  intro W base args ds gs before hval0 hW _ _ hL _
  have hval : ∀ (j : Nat) t v, Tryd.f6.params[j]? = some t → args[j]? = some v → Value.okWide Tryd.prog W .any base t v := hval0
  have hW' := hW
  obtain ⟨p, q, hA0, hV, rfl, _, _⟩ := hW
  have hA : DataW.TrodAll enc Tryd.prog W 0 (fun _ => true) true Tryd.f6.params.toList args.toList ds p := hA0
  rw [Tryd.params6] at hA hval
  obtain ⟨v0, vs0, d0, ds0, p0, q0, hargs, rfl, rfl, h0, r0⟩ := trodAll_cons hA
  obtain ⟨v1, vs1, d1, ds1, p1, q1, rfl, rfl, rfl, h1, r1⟩ := trodAll_cons r0
  obtain ⟨rfl, rfl, rfl⟩ := trodAll_nil r1
  obtain rfl : args = #[v0, v1] := by cases args; simp_all
  obtain ⟨rfl, rfl⟩ := trodVars_none hV
  obtain ⟨x0, rfl, rfl, rfl, w0⟩ := open_string Tryd.underlying9 (hval 0 9 v0 rfl rfl) h0
  obtain ⟨x1, rfl, rfl, rfl, w1⟩ := open_string Tryd.underlying9 (hval 1 9 v1 rfl rfl) h1
  clear hA0 hval0
  simp only [List.append_nil] at hW'
  refine (law x0 x1 W w0 w1 (tabs_of_laid hL)).mono fun e W' ⟨he, bel⟩ => ?_
  subst he
  exact ⟨_, rfl, _, _, _, [], _, [], hW', trodAll_mk1 (shut_bool Tryd.underlying4 _), (trodAll_cons_mk (shut_string Tryd.underlying9 w0) (trodAll_cons_mk (shut_string Tryd.underlying9 w1) trodAll_mk0)), rfl, bel.frame _, fun h => by cases h⟩

theorem said : Rows.LeaderStaysSaid :=
  OpenClaim.holds_of_wide 6 Tryd.f6 rfl rfl rfl rfl rfl rfl rfl ⟨rfl, rfl, rfl, rfl, rfl⟩ rfl rfl rfl rfl rfl (by kernel_rfl) Tryd.func6 (by kernel_rfl)
    (of_decide_eq_true (by kernel_rfl)) (by unfold Func.isWrapper; first | (rw [if_pos (by decide +kernel)]; kernel_rfl) | (rw [if_neg (by decide +kernel)]; exact ⟨rfl, rfl⟩))
    (fun os started H enc _ => lifted os started H enc)

theorem plain (f : FuncId) (fn : Func) (hf : Tryd.pinned.checked.prog.funcNamed Tryd.f6.name = some f) (hfn : Tryd.pinned.checked.prog.funcs[f]? = some fn) :
    false = Tryd.pinned.checked.prog.looks [] ∧ ∀ (j : Nat) t, fn.params[j]? = some t → Tryd.pinned.checked.prog.wantsStandIn t = false := by
  obtain rfl : f = 6 := Option.some.inj ((show Tryd.prog.funcNamed Tryd.f6.name = some 6 by kernel_rfl).symm.trans hf) |>.symm
  obtain rfl : fn = Tryd.f6 := (Option.some.inj (Tryd.func6.symm.trans hfn)).symm
  refine ⟨by kernel_rfl, fun j t ht => ?_⟩
  rw [Tryd.params6] at ht
  have hm : t ∈ [9, 9] := by simpa using Array.mem_of_getElem? ht
  have hall : ([9, 9].all fun u => !Tryd.prog.wantsStandIn u) = true := by kernel_rfl
  exact (show Tryd.prog.wantsStandIn t = false from Bool.not_eq_true' _ |>.mp (List.all_eq_true.1 hall t hm))

theorem card : Rows.LeaderStaysCardSaid :=
  Claim7.holds_tied_plain_at .later [] _ _ _ _ said (fun _ h => by cases h) (by kernel_rfl) (fun _ h => by cases h) leaderStays_row_tie rfl ⟨rfl, rfl⟩ (by kernel_rfl) rfl plain (by kernel_rfl)
#print axioms card
end Go.Proofs.YtglgcbocpdenhabDoor.Stays
