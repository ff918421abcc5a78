/- PastBacks is true of any place and any two texts: the way back of the way back is the edit. -/
import Derived.Test.YtibdhahkkejnjaaArgs
import Derived.Test.YtibdhahkkejnjaaPsP
import Derived.ChangeMaps5
namespace Go.Proofs.Ytibdhahkkejnjaa.PastBacks
open Go.ChangeShapes Go.WideShapes Go.ChangeAt Go.RowKit Go.Proofs.PlatenPiece
set_option linter.unusedVariables false
set_option maxRecDepth 100000

set_option maxHeartbeats 2000000 in
theorem ref_back (at' : Int) (o n : ByteArray) (w : World) :
    Calls Try.prog 31 #[.agg #[.int .i64 at', .string o, .string n]] w fun e w' => e = .returned (.agg #[.int .i64 at', .string n, .string o]) ∧ Below w.heap.size w w' := by
  go_enter Try.func31, Try.ntmps31
  go_wp2_with fail
  refine bodyPost_ret (results_cell_row rfl _ _ (w.heap.size + 1) 57 #[.int .i64 at', .string n, .string o] (0, 0) _ rfl (by rw [show w.heap.size + 1 = (w.alloc (.cells #[.int .i64 at', .string o, .string n] 57)).heap.size by simp]; exact heap_alloc_new _ _) Try.underlying57 rfl size57e) rfl ⟨rfl, ((Below.refl _ _).alloc (Nat.le_refl _) _).alloc (by simp) _⟩

set_option maxHeartbeats 2000000 in
theorem long (a : Int) (s t : ByteArray) (w : World) (hs : 300 < s.size ∨ 300 < t.size) : Calls Try.prog 6 #[.int .i64 a, .string s, .string t] w fun e w' => e = .returned (.bool true) ∧ Below w.heap.size w w' := by
  by_cases hx : 300 < s.size
  · have hz : (300 : Int) < (s.size : Int) := by omega
    clear hs hx
    go_enter Try.func6, Try.ntmps6
    go_wp2_with fail
    refine (moves_any w).mono ?_
    rintro e w1 ⟨rfl, hb1⟩
    have HB1 := hidden hb1
    clear hb1
    go_wp2_with fail
    refine (moves_any w1).mono ?_
    rintro e w2 ⟨rfl, hb2⟩
    have HB2 := hidden (HB1.out.trans (hb2.mono HB1.out.size))
    clear hb2
    go_wp2
    go_ret
    exact ⟨rfl, HB2.out⟩
  · have hz : ¬ ((300 : Int) < (s.size : Int)) := by omega
    have hy : (300 : Int) < (t.size : Int) := by omega
    clear hs hx
    go_enter Try.func6, Try.ntmps6
    go_wp2_with fail
    refine (moves_any w).mono ?_
    rintro e w1 ⟨rfl, hb1⟩
    have HB1 := hidden hb1
    clear hb1
    go_wp2_with fail
    refine (moves_any w1).mono ?_
    rintro e w2 ⟨rfl, hb2⟩
    have HB2 := hidden (HB1.out.trans (hb2.mono HB1.out.size))
    clear hb2
    go_wp2
    go_ret
    exact ⟨rfl, HB2.out⟩

set_option maxHeartbeats 4000000 in
theorem short (a : Int) (s t : ByteArray) (w : World) (hs : ¬ 300 < s.size) (ht : ¬ 300 < t.size) : Calls Try.prog 6 #[.int .i64 a, .string s, .string t] w fun e w' => e = .returned (.bool true) ∧ Below w.heap.size w w' := by
  have hz : ¬ ((300 : Int) < (s.size : Int)) := by omega
  have hy : ¬ ((300 : Int) < (t.size : Int)) := by omega
  clear hs ht
  go_enter Try.func6, Try.ntmps6
  go_wp2_with fail
  refine (moves_any w).mono ?_
  rintro e w1 ⟨rfl, hb1⟩
  have HB1 := hidden hb1
  clear hb1
  go_wp2_with fail
  have F0 : Ed3 w w1.heap.size (.int .i64 a) (.string s) (.string t) (w1.alloc (.cells #[.int .i64 a, .string s, .string t] 57)) := by
    have q := heap_alloc_new w1 (.cells #[.int .i64 a, .string s, .string t] 57)
    exact ⟨HB1.out.alloc HB1.out.size _, by simp only [World.cell?, q]; rfl, by simp only [World.cell?, q]; rfl, by simp only [World.cell?, q]; rfl⟩
  have HF := hidden F0
  clear F0 HB1
  generalize (w1.alloc (.cells #[.int .i64 a, .string s, .string t] 57)) = W at *
  have HALL : Hid (∀ u, Ed3 w w1.heap.size (.int .i64 a) (.string s) (.string t) u → (u.cell? ⟨w1.heap.size, 0, none⟩ = some (.int .i64 a) ∧ u.cell? ⟨w1.heap.size, 1, none⟩ = some (.string s) ∧ u.cell? ⟨w1.heap.size, 2, none⟩ = some (.string t)) ∧ Below w.heap.size w u) := fun u hu => ⟨⟨hu.c0, hu.c1, hu.c2⟩, hu.rel⟩
  have HNX : Hid (∀ u u', ((u.cell? ⟨w1.heap.size, 0, none⟩ = some (.int .i64 a) ∧ u.cell? ⟨w1.heap.size, 1, none⟩ = some (.string s) ∧ u.cell? ⟨w1.heap.size, 2, none⟩ = some (.string t)) ∧ Below w.heap.size w u) → Below u.heap.size u u' → ((u'.cell? ⟨w1.heap.size, 0, none⟩ = some (.int .i64 a) ∧ u'.cell? ⟨w1.heap.size, 1, none⟩ = some (.string s) ∧ u'.cell? ⟨w1.heap.size, 2, none⟩ = some (.string t)) ∧ Below w.heap.size w u')) := fun u u' hu hb => HALL.out _ (Ed3.next ⟨hu.2, hu.1.1, hu.1.2.1, hu.1.2.2⟩ hb)
  have H0 := HALL.out _ HF.out.drew
  go_region_held3 (fun u => (u.cell? ⟨w1.heap.size, 0, none⟩ = some (.int .i64 a) ∧ u.cell? ⟨w1.heap.size, 1, none⟩ = some (.string s) ∧ u.cell? ⟨w1.heap.size, 2, none⟩ = some (.string t)) ∧ Below w.heap.size w u) (assumption) (first | (go_at_call 30; refine (ed_back _ _ _ _).mono ?_; rintro e w2 ⟨rfl, hb⟩; have hS := HNX.out _ _ (by assumption) hb) | (go_at_call 31; refine (ref_back _ _ _ _).mono ?_; rintro e w2 ⟨rfl, hb⟩; have hS := HNX.out _ _ (by assumption) hb))
  have HB9 : Hid (Below w.heap.size w _) := hS.2
  go_wp2
  go_ret
  exact ⟨rfl, HB9.out⟩

theorem law (a : Int) (s t : ByteArray) (w : World) : Calls Try.prog 6 #[.int .i64 a, .string s, .string t] w fun e w' => e = .returned (.bool true) ∧ Below w.heap.size w w' := by
  by_cases hs : 300 < s.size ∨ 300 < t.size
  · exact long a s t w hs
  · exact short a s t w (fun h => hs (Or.inl h)) (fun h => hs (Or.inr h))

set_option maxRecDepth 100000 in
theorem lifted (os : Os) (started : os.Started) (H : Type) (enc : TypeId × Value → H) :
    ReturnsInHanded {} Try.checked os 6 .any (Rows.pastBacksSpec.pre6 enc Try.prog Try.f6 Rows.pastBacksRow.domain false) (Rows.pastBacksSpec.post enc Try.prog Try.f6 false true false false) := by
  refine returnsInHanded_of_change (C := Try.checked) own started (by kernel_rfl) Try.func6
    (ChangeSpec.witness6 (enc := enc) (C := Try.checked) false ⟨#[], #[.int .i64 0, .string ⟨#[]⟩, .string ⟨#[]⟩], []⟩ 8 (by kernel_rfl) (by kernel_rfl) (by kernel_rfl) (by kernel_rfl)) ?_
  intro W base args ds gs before hval0 hW _ _
  have hval : ∀ (j : Nat) t v, Try.f6.params[j]? = some t → args[j]? = some v → Value.okWide Try.prog W .any base t v := hval0
  have hW' := hW
  obtain ⟨p, q, hA0, hV, rfl, _, _⟩ := hW
  have hA : DataW.TrodAll enc Try.prog W 0 (fun _ => true) true Try.f6.params.toList args.toList ds p := hA0
  rw [Try.params6] at hA hval
  obtain ⟨v0, vs0, d0, ds0, p0, q0, hargs, rfl, rfl, h0, r0⟩ := trodAll_cons hA
  obtain ⟨v1, vs1, d1, ds1, p1, q1, rfl, rfl, rfl, h1, r1⟩ := trodAll_cons r0
  obtain ⟨v2, vs2, d2, ds2, p2, q2, rfl, rfl, rfl, h2, r2⟩ := trodAll_cons r1
  obtain ⟨rfl, rfl, rfl⟩ := trodAll_nil r2
  obtain rfl : args = #[v0, v1, v2] := by cases args; simp_all
  obtain ⟨rfl, rfl⟩ := trodVars_none hV
  obtain ⟨x0, rfl, rfl, rfl, w0⟩ := open_int Try.underlying3 (hval 0 3 v0 rfl rfl) h0
  obtain ⟨s1, rfl, rfl, rfl, w1⟩ := Go.ChangeMaps.open_string Try.underlying9 (hval 1 9 v1 rfl rfl) h1
  obtain ⟨s2, rfl, rfl, rfl, w2⟩ := Go.ChangeMaps.open_string Try.underlying9 (hval 2 9 v2 rfl rfl) h2
  clear hA0 hval0
  simp only [List.append_nil] at hW'
  refine (law x0 s1 s2 W).mono fun e W' ⟨he, bel⟩ => ?_
  subst he
  exact ⟨_, rfl, _, _, _, [], _, [], hW', trodAll_mk1 (shut_bool Try.underlying4 _), (trodAll_cons_mk (shut_int Try.underlying3 w0) (trodAll_cons_mk (Go.ChangeMaps.shut_string Try.underlying9 w1) (trodAll_cons_mk (Go.ChangeMaps.shut_string Try.underlying9 w2) trodAll_mk0))), rfl, bel.frame _, fun h => by cases h⟩

theorem said : Rows.PastBacksSaid :=
  OpenClaim.holds_of_wide 6 Try.f6 rfl rfl rfl rfl rfl rfl rfl ⟨rfl, rfl, rfl, rfl, rfl⟩ rfl rfl rfl rfl rfl (by kernel_rfl) Try.func6 (by kernel_rfl)
    (of_decide_eq_true (by kernel_rfl)) (by unfold Func.isWrapper; first | (rw [if_pos (by decide +kernel)]; kernel_rfl) | (rw [if_neg (by decide +kernel)]; exact ⟨rfl, rfl⟩))
    (fun os started H enc _ => lifted os started H enc)
#print axioms said
end Go.Proofs.Ytibdhahkkejnjaa.PastBacks
