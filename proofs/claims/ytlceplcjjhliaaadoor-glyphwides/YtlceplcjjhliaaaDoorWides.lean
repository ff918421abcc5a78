/- GlyphWides is true of any bytes, place, column and tab: the program's Wide is the document's; a text parted between two signs goes as far. No condition but the card's own: Go's two tables of unicode/utf8 hold what the library's text lays. -/
import Derived.Test.YtlceplcjjhliaaaDoorArgs
import Derived.Test.YtlceplcjjhliaaaDoorCallsJ
import Derived.Test.YtlceplcjjhliaaaDoorCards
import Derived.Test.YtlceplcjjhliaaaDoorTie
import Derived.Deep.RegionHeld3
namespace Go.Proofs.YtlceplcjjhliaaaDoor.Wides
open Go.ChangeShapes Go.WideShapes Go.ChangeAt Go.RowKit Go.Proofs.PlatenGlyph
set_option linter.unusedVariables false

set_option maxHeartbeats 400000 in
theorem long (v : Value) (n : Nat) (f : Nat → Nat) (a : Int) (col tab : Nat) (w : World) (hv : IsArg w v n f) (hn : 200 < n) (hT : Lib.Utf8Tabs 0 1 w) :
    Calls Tryd.prog 10 #[v, .int .i64 a, .int .u16 col, .int .u8 tab] w fun e w' => e = .returned (.bool true) ∧ Below w.heap.size w w' := by
  have cs := signs_any w hT
  have HT := hidden hT
  obtain ⟨ea, cap, rfl⟩ := hv.val
  have hnz : 200 < (n : Int) := by omega
  clear hT hv
  go_enter Tryd.func10, Tryd.ntmps10
  go_wp2_with fail
  refine cs.mono ?_
  rintro e w1 ⟨rfl, hb⟩
  have cs2 := signs_any w1 (tabs_below HT.out hb)
  go_wp2_with fail
  refine cs2.mono ?_
  rintro e w2 ⟨rfl, hb2⟩
  go_wp2
  go_ret
  exact ⟨rfl, hb.trans (hb2.mono hb.size)⟩

set_option maxHeartbeats 400000 in
theorem zero (v : Value) (n : Nat) (f : Nat → Nat) (a : Int) (col : Nat) (w : World) (hv : IsArg w v n f) (hn : ¬ 200 < n) (hT : Lib.Utf8Tabs 0 1 w) :
    Calls Tryd.prog 10 #[v, .int .i64 a, .int .u16 col, .int .u8 0] w fun e w' => e = .returned (.bool true) ∧ Below w.heap.size w w' := by
  have cs := signs_any w hT
  have HT := hidden hT
  obtain ⟨ea, cap, rfl⟩ := hv.val
  have hnz : ¬ (200 < (n : Int)) := by omega
  clear hT hv
  go_enter Tryd.func10, Tryd.ntmps10
  go_wp2_with fail
  refine cs.mono ?_
  rintro e w1 ⟨rfl, hb⟩
  have cs2 := signs_any w1 (tabs_below HT.out hb)
  go_wp2_with fail
  refine cs2.mono ?_
  rintro e w2 ⟨rfl, hb2⟩
  go_wp2
  go_ret
  exact ⟨rfl, hb.trans (hb2.mono hb.size)⟩

/-- Behind some calls: what was there is as it was. -/
def Rel (w u : World) : Prop := Below w.heap.size w u
theorem Rel.drew {w u : World} (h : Rel w u) : Rel w u.drew := Below.drew h
theorem Rel.next {w u u' : World} (h : Rel w u) (hb : Below u.heap.size u u') : Rel w u' := Below.trans h (hb.mono h.size)
theorem Rel.refl (w : World) : Rel w w := Below.refl _ _

theorem floor_nth (f : Nat → Nat) (n : Nat) (a : Int) : ∃ j K : Nat, rfloorZ f n a = K ∧ nth f n j = K ∧ j ≤ cnt f n := by
  unfold rfloorZ
  by_cases h1 : (n : Int) ≤ a
  · exact ⟨cnt f n, n, by rw [if_pos h1], cnt_end f n, Nat.le_refl _⟩
  · rw [if_neg h1]
    by_cases h2 : a < 0
    · exact ⟨0, 0, by rw [if_pos h2]; rfl, rfl, Nat.zero_le _⟩
    · rw [if_neg h2]
      obtain ⟨k, g1, g2⟩ := nth_cover f n a.toNat (by omega)
      refine ⟨k, nth f n k, by rw [flo_of (by omega) g1 g2], rfl, ?_⟩
      have := (cnt_iff f n k).1 (by omega)
      omega

set_option maxHeartbeats 2000000 in
set_option maxRecDepth 100000 in
theorem row (b off n cap : Nat) (f : Nat → Nat) (a : Int) (col tab : Nat) (w : World) (hf : ∀ j, f j < 256) (hcap : n ≤ cap) (hc : Cells w b off n f) (hn : n ≤ 200) (hcol : col < 65536) (htab : tab < 256) (h1 : 1 ≤ tab) (hT : Lib.Utf8Tabs 0 1 w) :
    Calls Tryd.prog 10 #[.slice (some ⟨b, off, none⟩) n cap, .int .i64 a, .int .u16 col, .int .u8 tab] w fun e w' => e = .returned (.bool true) ∧ Below w.heap.size w w' := by
  have cs := signs_any w hT
  have HT := hidden hT
  have HC := hidden hc
  have hnz : ¬ (200 < (n : Int)) := by omega
  have ht0 : ((tab : Int) == 0) = false := by simp; omega
  have mk : ∀ (u : World) (m : Nat), m ≤ n → Cells u b off n f → IsBytes u (.slice (some ⟨b, off, none⟩) m cap) m f := fun u m hm hcu => ⟨hf, by omega, Or.inr ⟨b, off, cap, rfl, by omega, hcu.head hm⟩⟩
  obtain ⟨j, K, hK, hj, hjc⟩ := floor_nth f n a
  have hKn : K ≤ n := by rw [← hj]; exact nth_le _ _ _
  have hW1 : wide f K col tab ≤ 100000 + 65536 := by
    rw [wide_head hj hjc]
    have := wid_le f n col tab h1 j
    have h2 : j * tab ≤ 200 * 255 := Nat.mul_le_mul (by have := cnt_le f n; omega) (by omega)
    omega
  have hWt := wide_tail hj hjc col tab
  have RR : ∀ u, Rel w u → Calls Tryd.prog 29 #[.slice (some ⟨b, off, none⟩) n cap, .int .i64 col, .int .i64 tab] u fun e w' => e = .returned (.int .i64 (wide f n col tab)) ∧ Rel w w' := fun u hu =>
    (rwide_any (.slice (some ⟨b, off, none⟩) n cap) f n col tab u (by omega) (mk u n (Nat.le_refl _) (HC.out.below hu)) (by omega) h1 (by omega)).mono fun e w' ⟨he, hb⟩ => ⟨he, hu.next hb⟩
  have RA : ∀ u, Rel w u → Calls Tryd.prog 28 #[.slice (some ⟨b, off, none⟩) n cap, .int .i64 col, .int .i64 tab] u fun e w' => e = .returned (.int .i64 (wide f n col tab)) ∧ Rel w w' := fun u hu =>
    (wide_any (.slice (some ⟨b, off, none⟩) n cap) f n col tab u (by omega) (tabs_below HT.out hu) (mk u n (Nat.le_refl _) (HC.out.below hu)) (by omega) h1 (by omega)).mono fun e w' ⟨he, hb⟩ => ⟨he, hu.next hb⟩
  have RH : ∀ u, Rel w u → Calls Tryd.prog 28 #[.slice (some ⟨b, off, none⟩) K cap, .int .i64 col, .int .i64 tab] u fun e w' => e = .returned (.int .i64 (wide f K col tab)) ∧ Rel w w' := fun u hu =>
    (wide_any (.slice (some ⟨b, off, none⟩) K cap) f K col tab u (by omega) (tabs_below HT.out hu) (mk u K hKn (HC.out.below hu)) (by omega) h1 (by omega)).mono fun e w' ⟨he, hb⟩ => ⟨he, hu.next hb⟩
  have RT : ∀ u, Rel w u → Calls Tryd.prog 28 #[.slice (some ⟨b, off + K, none⟩) (n - K) (cap - K), .int .i64 (wide f K col tab), .int .i64 tab] u fun e w' => e = .returned (.int .i64 (wide f n col tab)) ∧ Rel w w' := fun u hu => by
    have := wide_any (.slice (some ⟨b, off + K, none⟩) (n - K) (cap - K)) (fun x => f (K + x)) (n - K) (wide f K col tab) tab u (by omega) (tabs_below HT.out hu)
      ⟨fun j => hf _, by omega, Or.inr ⟨b, off + K, cap - K, rfl, by omega, (HC.out.below hu).tail K⟩⟩ (by omega) h1 (by omega)
    rw [hWt] at this
    exact this.mono fun e w' ⟨he, hb⟩ => ⟨he, hu.next hb⟩
  have RF : ∀ u, Rel w u → Calls Tryd.prog 20 #[.slice (some ⟨b, off, none⟩) n cap, .int .i64 a] u fun e w' => e = .returned (.int .i64 K) ∧ Rel w w' := fun u hu => by
    have := rfloor_any (.slice (some ⟨b, off, none⟩) n cap) f n a u (by omega) (mk u n (Nat.le_refl _) (HC.out.below hu))
    rw [hK] at this
    exact this.mono fun e w' ⟨he, hb⟩ => ⟨he, hu.next hb⟩
  have RB : cap = K → ∀ u, Rel w u → Calls Tryd.prog 28 #[.slice (some ⟨b, off, none⟩) 0 0, .int .i64 (wide f K col tab), .int .i64 tab] u fun e w' => e = .returned (.int .i64 (wide f n col tab)) ∧ Rel w w' := fun hcK u hu => by
    have := wide_any (.slice (some ⟨b, off, none⟩) 0 0) f 0 (wide f K col tab) tab u (by omega) (tabs_below HT.out hu) ⟨hf, by omega, Or.inl ⟨_, _, rfl, rfl⟩⟩ (by omega) h1 (by omega)
    have e : wide f 0 (wide f K col tab) tab = wide f n col tab := by
      rw [← hWt, show n - K = 0 by omega]; rfl
    rw [e] at this
    exact this.mono fun e w' ⟨he, hb⟩ => ⟨he, hu.next hb⟩
  have HRB := hidden RB
  clear RB
  have HRR := hidden RR
  have HRA := hidden RA
  have HRH := hidden RH
  have HRT := hidden RT
  have HRF := hidden RF
  clear RR RA RH RT RF hT hc hWt hK hj
  generalize wide f K col tab = WK at *
  generalize wide f n col tab = WN at *
  go_enter Tryd.func10, Tryd.ntmps10
  go_wp2_with fail
  refine cs.mono ?_
  rintro e w1 ⟨rfl, hb⟩
  have r1 : Rel w w1 := hb
  clear hb cs
  go_wp2_with fail
  refine (HRF.out _ r1).mono ?_
  rintro e w2 ⟨rfl, r2⟩
  go_wp2_with fail
  refine (HRA.out _ r2).mono ?_
  rintro e w3 ⟨rfl, r3⟩
  clear r1 r2
  go_wp2_with fail
  have kz1 : (K : Int) ≤ (n : Int) := by omega
  have kz2 : (K : Int) ≤ (cap : Int) := by omega
  have kz3 : (n : Int) ≤ (cap : Int) := by omega
  have hKc : K ≤ cap := by omega
  have hwr : IntKind.i64.wrap (col : Int) = (col : Int) := IntWalk.i64_in _ (by omega)
  clear HT HC mk hf htab hW1 HRF HRA hjc hn
  rcases Nat.eq_zero_or_pos K with h0 | h0
  · subst h0
    have RT0 : ∀ u, Rel w u → Calls Tryd.prog 28 #[.slice (some ⟨b, off, none⟩) n cap, .int .i64 WK, .int .i64 tab] u fun e w' => e = .returned (.int .i64 WN) ∧ Rel w w' := fun u hu => HRT.out u hu
    have HRT0 := hidden RT0
    have RH0 : ∀ u, Rel w u → Calls Tryd.prog 28 #[.slice (some ⟨b, off, none⟩) 0 cap, .int .i64 col, .int .i64 tab] u fun e w' => e = .returned (.int .i64 WK) ∧ Rel w w' := fun u hu => HRH.out u hu
    have HRH0 := hidden RH0
    clear RT0 RH0 HRT HRH
    go_region_held3 (fun u => Rel w u) (first | assumption | exact Rel.drew (by assumption)) (first
      | (go_at_call 29; (try rw [hwr]); refine (HRR.out _ ?_).mono ?_; (first | assumption | exact Rel.drew (by assumption)); rintro e w4 ⟨rfl, r4⟩)
      | (go_at_call_of 28 (Value.slice (some ⟨b, off, none⟩) 0 cap); (try rw [hwr]); refine (HRH0.out _ ?_).mono ?_; (first | assumption | exact Rel.drew (by assumption)); rintro e w5 ⟨rfl, r5⟩)
      | (go_at_call_of 28 (Value.slice (some ⟨b, off, none⟩) n cap); refine (HRT0.out _ ?_).mono ?_; (first | assumption | exact Rel.drew (by assumption)); rintro e w6 ⟨rfl, r6⟩))
    all_goals go_wp2
    all_goals go_ret
    all_goals exact ⟨rfl, by assumption⟩
  · have h0' : ¬ K = 0 := by omega
    by_cases hcK : cap = K
    · have hRB := HRB.out hcK
      have hnK : n = K := by omega
      subst hnK
      subst hcK
      have HRB' := hidden hRB
      clear hRB HRB HRT
      go_region_held3 (fun u => Rel w u) (first | assumption | exact Rel.drew (by assumption)) (first
        | (go_at_call 29; (try rw [hwr]); refine (HRR.out _ ?_).mono ?_; (first | assumption | exact Rel.drew (by assumption)); rintro e w4 ⟨rfl, r4⟩)
        | (go_at_call_of 28 (Value.slice (some ⟨b, off, none⟩) cap cap); (try rw [hwr]); refine (HRH.out _ ?_).mono ?_; (first | assumption | exact Rel.drew (by assumption)); rintro e w5 ⟨rfl, r5⟩)
        | (go_at_call_of 28 (Value.slice (some ⟨b, off, none⟩) 0 0); refine (HRB'.out _ ?_).mono ?_; (first | assumption | exact Rel.drew (by assumption)); rintro e w6 ⟨rfl, r6⟩))
      all_goals go_wp2
      all_goals go_ret
      all_goals exact ⟨rfl, by assumption⟩
    · go_region_held3 (fun u => Rel w u) (first | assumption | exact Rel.drew (by assumption)) (first
        | (go_at_call 29; (try rw [hwr]); refine (HRR.out _ ?_).mono ?_; (first | assumption | exact Rel.drew (by assumption)); rintro e w4 ⟨rfl, r4⟩)
        | (go_at_call_of 28 (Value.slice (some ⟨b, off, none⟩) K cap); (try rw [hwr]); refine (HRH.out _ ?_).mono ?_; (first | assumption | exact Rel.drew (by assumption)); rintro e w5 ⟨rfl, r5⟩)
        | (go_at_call_of 28 (Value.slice (some ⟨b, off + K, none⟩) (n - K) (cap - K)); refine (HRT.out _ ?_).mono ?_; (first | assumption | exact Rel.drew (by assumption)); rintro e w6 ⟨rfl, r6⟩))
      all_goals go_wp2
      all_goals go_ret
      all_goals exact ⟨rfl, by assumption⟩

set_option maxHeartbeats 2000000 in
set_option maxRecDepth 100000 in
theorem empty (ea : Option Addr) (ecap : Nat) (f : Nat → Nat) (a : Int) (col tab : Nat) (w : World) (hf : ∀ j, f j < 256) (hcol : col < 65536) (htab : tab < 256) (h1 : 1 ≤ tab) (hT : Lib.Utf8Tabs 0 1 w) :
    Calls Tryd.prog 10 #[.slice ea 0 ecap, .int .i64 a, .int .u16 col, .int .u8 tab] w fun e w' => e = .returned (.bool true) ∧ Below w.heap.size w w' := by
  have cs := signs_any w hT
  have HT := hidden hT
  have ht0 : ((tab : Int) == 0) = false := by simp; omega
  have mk : ∀ (u : World) (x : Option Addr) (c : Nat), IsBytes u (.slice x 0 c) 0 f := fun u x c => ⟨hf, by omega, Or.inl ⟨_, _, rfl, rfl⟩⟩
  have hK : rfloorZ f 0 a = 0 := by
    obtain ⟨j, K, hK, hj, _⟩ := floor_nth f 0 a
    have := nth_le f 0 j
    rw [hK]; omega
  have RA : ∀ x c u, Rel w u → Calls Tryd.prog 28 #[.slice x 0 c, .int .i64 col, .int .i64 tab] u fun e w' => e = .returned (.int .i64 col) ∧ Rel w w' := fun x c u hu =>
    (wide_any (.slice x 0 c) f 0 col tab u (by omega) (tabs_below HT.out hu) (mk u x c) (by omega) h1 (by omega)).mono fun e w' ⟨he, hb⟩ => ⟨he, hu.next hb⟩
  have RR : ∀ u, Rel w u → Calls Tryd.prog 29 #[.slice ea 0 ecap, .int .i64 col, .int .i64 tab] u fun e w' => e = .returned (.int .i64 col) ∧ Rel w w' := fun u hu =>
    (rwide_any (.slice ea 0 ecap) f 0 col tab u (by omega) (mk u ea ecap) (by omega) h1 (by omega)).mono fun e w' ⟨he, hb⟩ => ⟨he, hu.next hb⟩
  have RF : ∀ u, Rel w u → Calls Tryd.prog 20 #[.slice ea 0 ecap, .int .i64 a] u fun e w' => e = .returned (.int .i64 0) ∧ Rel w w' := fun u hu => by
    have := rfloor_any (.slice ea 0 ecap) f 0 a u (by omega) (mk u ea ecap)
    rw [hK] at this
    exact this.mono fun e w' ⟨he, hb⟩ => ⟨he, hu.next hb⟩
  have HRA := hidden RA
  have HRR := hidden RR
  have HRF := hidden RF
  have hwr : IntKind.i64.wrap (col : Int) = (col : Int) := IntWalk.i64_in _ (by omega)
  clear RA RR RF hT hK mk hf
  go_enter Tryd.func10, Tryd.ntmps10
  go_wp2_with fail
  refine cs.mono ?_
  rintro e w1 ⟨rfl, hb⟩
  have r1 : Rel w w1 := hb
  clear hb cs
  go_wp2_with fail
  refine (HRF.out _ r1).mono ?_
  rintro e w2 ⟨rfl, r2⟩
  go_wp2_with fail
  refine (HRA.out _ _ _ r2).mono ?_
  rintro e w3 ⟨rfl, r3⟩
  clear r1 r2
  go_wp2_with fail
  clear HT HRF
  cases ea with
  | none =>
    go_region_held3 (fun u => Rel w u) (first | assumption | exact Rel.drew (by assumption)) (first
      | (go_at_call 29; (try rw [hwr]); refine (HRR.out _ ?_).mono ?_; (first | assumption | exact Rel.drew (by assumption)); rintro e w4 ⟨rfl, r4⟩)
      | (go_at_call 28; (try rw [hwr]); refine (HRA.out _ _ _ ?_).mono ?_; (first | assumption | exact Rel.drew (by assumption)); rintro e w5 ⟨rfl, r5⟩))
    all_goals go_wp2
    all_goals go_ret
    all_goals exact ⟨rfl, by assumption⟩
  | some x =>
    by_cases hc0 : ecap = 0
    · subst hc0
      go_region_held3 (fun u => Rel w u) (first | assumption | exact Rel.drew (by assumption)) (first
        | (go_at_call 29; (try rw [hwr]); refine (HRR.out _ ?_).mono ?_; (first | assumption | exact Rel.drew (by assumption)); rintro e w4 ⟨rfl, r4⟩)
        | (go_at_call 28; (try rw [hwr]); refine (HRA.out _ _ _ ?_).mono ?_; (first | assumption | exact Rel.drew (by assumption)); rintro e w5 ⟨rfl, r5⟩))
      all_goals go_wp2
      all_goals go_ret
      all_goals exact ⟨rfl, by assumption⟩
    · go_region_held3 (fun u => Rel w u) (first | assumption | exact Rel.drew (by assumption)) (first
        | (go_at_call 29; (try rw [hwr]); refine (HRR.out _ ?_).mono ?_; (first | assumption | exact Rel.drew (by assumption)); rintro e w4 ⟨rfl, r4⟩)
        | (go_at_call 28; (try rw [hwr]); refine (HRA.out _ _ _ ?_).mono ?_; (first | assumption | exact Rel.drew (by assumption)); rintro e w5 ⟨rfl, r5⟩))
      all_goals go_wp2
      all_goals go_ret
      all_goals exact ⟨rfl, by assumption⟩

theorem law (v : Value) (n : Nat) (f : Nat → Nat) (a : Int) (col tab : Nat) (w : World) (hv : IsArg w v n f) (ha : -9223372036854775808 ≤ a ∧ a ≤ 9223372036854775807) (hcol : col < 65536) (htab : tab < 256) (hT : Lib.Utf8Tabs 0 1 w) :
    Calls Tryd.prog 10 #[v, .int .i64 a, .int .u16 col, .int .u8 tab] w fun e w' => e = .returned (.bool true) ∧ Below w.heap.size w w' := by
  by_cases hn : 200 < n
  · exact long v n f a col tab w hv hn hT
  by_cases h0 : tab = 0
  · subst h0; exact zero v n f a col w hv hn hT
  obtain ⟨hf, _, h⟩ := hv
  rcases h with ⟨ea, ecap, rfl, rfl⟩ | ⟨b, off, cap, rfl, hcap, hc⟩
  · exact empty ea ecap f a col tab w hf hcol htab (by omega) hT
  · exact row b off n cap f a col tab w hf hcap hc (by omega) hcol htab (by omega) hT

set_option maxRecDepth 100000 in
theorem lifted (os : Os) (started : os.Started) (H : Type) (enc : TypeId × Value → H) :
    ReturnsInHanded {} Tryd.checked os 10 .any (fun w args => (Rows.glyphWidesSpec.pre enc Tryd.prog Tryd.f10 [] false w args ∧ laidMetH Tryd.prog laid w) ∧ sizedMet enc Tryd.prog Tryd.f10 (OpenSpec.ofChange Rows.glyphWidesSpec) false w args)
      (Rows.glyphWidesSpec.post enc Tryd.prog Tryd.f10 false true false false) := by
  refine returnsInHanded_of_change_and (C := Tryd.checked) (X := fun w _ => laidMetH Tryd.prog laid w) (fun _ _ _ hh h => h.of_heap hh) own started (by kernel_rfl) Tryd.func10
    (ChangeSpec.witness_shaped (enc := enc) (C := Tryd.checked) (os := os) (X := fun w _ => laidMetH Tryd.prog laid w) false (World.laidAll Tryd.prog os laid) #[.slice none 0 0, .int .i64 0, .int .u16 0, .int .u8 0] 8 (World.laidAll_os _ _ _)
      (World.shaped_of_ZipB (by kernel_rfl) (by kernel_rfl)) (by kernel_rfl) (by kernel_rfl) (by kernel_rfl) (laid_world os _)) ?_
  intro W base args ds gs before hval0 hW _ _ hL _
  have hval : ∀ (j : Nat) t v, Tryd.f10.params[j]? = some t → args[j]? = some v → Value.okWide Tryd.prog W .any base t v := hval0
  have hW' := hW
  obtain ⟨p, q, hA0, hV, rfl, _, _⟩ := hW
  have hA : DataW.TrodAll enc Tryd.prog W 0 (fun _ => true) true Tryd.f10.params.toList args.toList ds p := hA0
  rw [Tryd.params10] at hA hval
  obtain ⟨v0, vs0, d0, ds0, p0, q0, hargs, rfl, rfl, h0, r0⟩ := trodAll_cons hA
  obtain ⟨v1, vs1, d1, ds1, p1, q1, rfl, rfl, rfl, h1, r1⟩ := trodAll_cons r0
  obtain ⟨v2, vs2, d2, ds2, p2, q2, rfl, rfl, rfl, h2, r2⟩ := trodAll_cons r1
  obtain ⟨v3, vs3, d3, ds3, p3, q3, rfl, rfl, rfl, h3, r3⟩ := trodAll_cons r2
  obtain ⟨rfl, rfl, rfl⟩ := trodAll_nil r3
  obtain rfl : args = #[v0, v1, v2, v3] := by cases args; simp_all
  obtain ⟨rfl, rfl⟩ := trodVars_none hV
  have lt0 : ∀ x ∈ p0, x.block < W.heap.size := by obtain ⟨m, hm⟩ := h0; exact DataW.trod_lt m _ _ _ hm
  obtain ⟨n0, f0, g0⟩ := open_bytes (hval 0 22 v0 rfl rfl) h0
  obtain ⟨x1, rfl, rfl, rfl, w1⟩ := open_int Tryd.underlying3 (hval 1 3 v1 rfl rfl) h1
  have b1 : -9223372036854775808 ≤ x1 ∧ x1 ≤ 9223372036854775807 := by simpa [Lit.wf, IntKind.min, IntKind.max, IntKind.signed, IntKind.bits] using w1
  obtain ⟨x2, rfl, rfl, rfl, w2⟩ := open_int Tryd.underlying33 (hval 2 33 v2 rfl rfl) h2
  have b2 : 0 ≤ x2 ∧ x2 ≤ 65535 := by simpa [Lit.wf, IntKind.min, IntKind.max, IntKind.signed, IntKind.bits] using w2
  obtain ⟨c2, rfl⟩ := Int.eq_ofNat_of_zero_le b2.1
  obtain ⟨x3, rfl, rfl, rfl, w3⟩ := open_int Tryd.underlying5 (hval 3 5 v3 rfl rfl) h3
  have b3 : 0 ≤ x3 ∧ x3 ≤ 255 := by simpa [Lit.wf, IntKind.min, IntKind.max, IntKind.signed, IntKind.bits] using w3
  obtain ⟨c3, rfl⟩ := Int.eq_ofNat_of_zero_le b3.1
  clear hA0 hval0
  simp only [List.append_nil] at hW'
  refine (law v0 n0 f0 x1 c2 c3 W g0 b1 (by omega) (by omega) (tabs_of_laid hL)).mono fun e W' ⟨he, bel⟩ => ?_
  subst he
  exact ⟨_, rfl, _, _, _, [], _, [], hW', trodAll_mk1 (shut_bool Tryd.underlying4 _), (trodAll_cons_mk (Below.trod laidOut (by kernel_rfl) (of_decide_eq_true (by kernel_rfl)) h0 bel lt0) (trodAll_cons_mk (shut_int Tryd.underlying3 w1) (trodAll_cons_mk (shut_int Tryd.underlying33 w2) (trodAll_cons_mk (shut_int Tryd.underlying5 w3) trodAll_mk0)))), rfl, bel.frame _, fun h => by cases h⟩

theorem said : Rows.GlyphWidesSaid :=
  OpenClaim.holds_of_wide 10 Tryd.f10 rfl rfl rfl rfl rfl rfl rfl ⟨rfl, rfl, rfl, rfl, rfl⟩ rfl rfl rfl rfl rfl (by kernel_rfl) Tryd.func10 (by kernel_rfl)
    (of_decide_eq_true (by kernel_rfl)) (by unfold Func.isWrapper; first | (rw [if_pos (by decide +kernel)]; kernel_rfl) | (rw [if_neg (by decide +kernel)]; exact ⟨rfl, rfl⟩))
    (fun os started H enc _ => lifted os started H enc)

theorem plain (f : FuncId) (fn : Func) (hf : Tryd.pinned.checked.prog.funcNamed Tryd.f10.name = some f) (hfn : Tryd.pinned.checked.prog.funcs[f]? = some fn) :
    false = Tryd.pinned.checked.prog.looks [] ∧ ∀ (j : Nat) t, fn.params[j]? = some t → Tryd.pinned.checked.prog.wantsStandIn t = false := by
  obtain rfl : f = 10 := Option.some.inj ((show Tryd.prog.funcNamed Tryd.f10.name = some 10 by kernel_rfl).symm.trans hf) |>.symm
  obtain rfl : fn = Tryd.f10 := (Option.some.inj (Tryd.func10.symm.trans hfn)).symm
  refine ⟨by kernel_rfl, fun j t ht => ?_⟩
  rw [Tryd.params10] at ht
  have hm : t ∈ [22, 3, 33, 5] := by simpa using Array.mem_of_getElem? ht
  have hall : ([22, 3, 33, 5].all fun u => !Tryd.prog.wantsStandIn u) = true := by kernel_rfl
  exact (show Tryd.prog.wantsStandIn t = false from Bool.not_eq_true' _ |>.mp (List.all_eq_true.1 hall t hm))

theorem card : Rows.GlyphWidesCardSaid :=
  Claim7.holds_tied_plain_at .later [] _ _ _ _ said (fun _ h => by cases h) (by kernel_rfl) (fun _ h => by cases h) glyphWides_row_tie rfl ⟨rfl, rfl⟩ (by kernel_rfl) rfl plain (by kernel_rfl)
#print axioms card
end Go.Proofs.YtlceplcjjhliaaaDoor.Wides
