/- GlyphWalks is true of any bytes: sign by sign on, and sign by sign back, one comes by the same places, and each is its own floor. No condition but the card's own: Go's two tables of unicode/utf8 hold what the library's text lays. -/
import Derived.Test.YtlceplcjjhliaaaDoorArgs
import Derived.Test.YtlceplcjjhliaaaDoorCallsJ
import Derived.Test.YtlceplcjjhliaaaDoorCards
import Derived.Test.YtlceplcjjhliaaaDoorTie
import Derived.BigQuiet
import Derived.Deep.QuietTactic
namespace Go.Proofs.YtlceplcjjhliaaaDoor.Walks
open Go.ChangeShapes Go.WideShapes Go.ChangeAt Go.RowKit Go.Proofs.PlatenGlyph
set_option linter.unusedVariables false

def backL (f : Nat → Nat) (n c j : Nat) : List Value := (List.range j).map fun i => Value.int .i64 (nth f n (c - 1 - i) : Nat)
theorem backL_succ (f : Nat → Nat) (n c j : Nat) : backL f n c (j + 1) = backL f n c j ++ [Value.int .i64 (nth f n (c - 1 - j) : Nat)] := by
  simp [backL, List.range_succ]

theorem ownsRow_below {w w' : World} {base : Nat} {e : TypeId} {size : Nat} {v : Value} {n : Nat} {xs : List Value} (h : w.ownsRow base e size v n xs) (hb : Below w.heap.size w w') : w'.ownsRow base e size v n xs := by
  obtain ⟨h1, h2⟩ := h
  refine ⟨h1, ?_⟩
  rcases h2 with h2 | ⟨g, cap, cur, hv, hg, hh, r⟩
  · exact Or.inl h2
  · have hlt : g < w.heap.size := (Array.getElem?_eq_some_iff.1 hh).1
    exact Or.inr ⟨g, cap, cur, hv, hg, by rw [hb.block g hlt]; exact hh, r⟩

theorem floor_self {f : Nat → Nat} {n k : Nat} (h : nth f n k < n) : floorZ f n (nth f n k : Nat) = (nth f n k : Nat) := by
  unfold floorZ
  by_cases h0 : ((nth f n k : Nat) : Int) ≤ 0
  · rw [if_pos h0]; omega
  · rw [if_neg h0, if_neg (by omega), Int.toNat_natCast, flo_of h (Nat.le_refl _) (nth_lt h)]

set_option maxHeartbeats 400000 in
theorem long (v : Value) (n : Nat) (f : Nat → Nat) (w : World) (hv : IsArg w v n f) (hn : 300 < n) (hT : Lib.Utf8Tabs 0 1 w) :
    Calls Tryd.prog 6 #[v] w fun e w' => e = .returned (.bool true) ∧ Below w.heap.size w w' := by
  have cs := signs_any w hT
  have HT := hidden hT
  obtain ⟨ea, cap, rfl⟩ := hv.val
  have hnz : 300 < (n : Int) := by omega
  clear hT hv
  go_enter Tryd.func6, Tryd.ntmps6
  go_wp2_with fail
  refine cs.mono ?_
  rintro e w1 ⟨rfl, hb⟩
  have cs2 := signs_any w1 (tabs_below HT.out hb)
  go_wp2_with fail
  refine cs2.mono ?_
  rintro e w2 ⟨rfl, hb2⟩
  go_wp2
  go_ret
  exact ⟨rfl, hb.trans (hb2.mono hb.size)⟩

set_option maxHeartbeats 1000000 in
theorem empty (ea : Option Addr) (ecap : Nat) (f : Nat → Nat) (w : World) (hf : ∀ j, f j < 256) (hT : Lib.Utf8Tabs 0 1 w) :
    Calls Tryd.prog 6 #[.slice ea 0 ecap] w fun e w' => e = .returned (.bool true) ∧ Below w.heap.size w w' := by
  have cs := signs_any w hT
  clear hT
  go_enter Tryd.func6, Tryd.ntmps6
  go_wp2_with fail
  refine cs.mono ?_
  rintro e w1 ⟨rfl, hb⟩
  have cc : Calls Tryd.prog 21 #[.slice ea 0 ecap] w1 fun e w' => e = .returned (.int .i64 0) ∧ Below w1.heap.size w1 w' := count_any (.slice ea 0 ecap) f 0 w1 ⟨hf, by omega, Or.inl ⟨_, _, rfl, rfl⟩⟩
  clear cs
  go_wp2
  go_loop [3, 5] (fun l a => l = .slice none 0 0 ∧ a = .int .i64 0) (fun _ _ => 0)
  case atStart => exact ⟨rfl, rfl⟩
  case round =>
    obtain ⟨rfl, rfl⟩ := hrel
    go_wp2
    go_loop [4, 7] (fun l a => l = .slice none 0 0 ∧ a = .int .i64 0) (fun _ _ => 0)
    case atStart => exact ⟨rfl, rfl⟩
    case round =>
      obtain ⟨rfl, rfl⟩ := hrel
      go_wp2_with (go_at_call 21; refine cc.mono ?_; rintro e w2 ⟨rfl, hb2⟩)
      go_loop [9] (fun i => i = .int .i64 0) (fun _ => 0)
      case atStart => rfl
      case round =>
        subst hrel
        go_wp2
        go_ret
        exact ⟨rfl, hb.trans (hb2.mono hb.size)⟩

set_option maxHeartbeats 4000000 in
set_option maxRecDepth 100000 in
theorem row (b off n cap : Nat) (f : Nat → Nat) (w : World) (hf : ∀ j, f j < 256) (hcap : n ≤ cap) (hc : Cells w b off n f) (hn : n ≤ 300) (hT : Lib.Utf8Tabs 0 1 w) :
    Calls Tryd.prog 6 #[.slice (some ⟨b, off, none⟩) n cap] w fun e w' => e = .returned (.bool true) ∧ Below w.heap.size w w' := by
  have cs := signs_any w hT
  have HT := hidden hT
  have HC := hidden hc
  have hnz : ¬ (300 < (n : Int)) := by omega
  have hcn := cnt_le f n
  obtain ⟨c, hce⟩ : ∃ c, cnt f n = c := ⟨_, rfl⟩
  have HCE := hidden hce
  rw [hce] at hcn
  obtain ⟨i0, hi, hz0, hz1, hz2⟩ := info_parts info3
  clear hT hc hce
  go_enter Tryd.func6, Tryd.ntmps6
  go_wp2_with fail
  refine cs.mono ?_
  rintro e w1 ⟨rfl, hb1⟩
  have HC1 := hidden (HC.out.below hb1)
  have HT1 := hidden (tabs_below HT.out hb1)
  have Hb1 := hidden hb1
  clear cs hb1 HC HT
  go_wp2
  go_loopw [3, 5] (fun v a wr => ∃ k : Nat, k ≤ c ∧ a = .int .i64 (nth f n k : Nat) ∧ wr.ownsRow w1.heap.size 3 1 v k (startsL f n k) ∧ Below w1.heap.size w1 wr) (fun _ a _ => n - (intOf a).toNat)
  case atStart => exact ⟨0, Nat.zero_le _, rfl, World.ownsRow_nil _ _ _ _, Below.refl _ _⟩
  case round =>
    obtain ⟨k, hk, rfl, hown, hnx⟩ := hrel
    have hend : nth f n k < n ∨ (nth f n k = n ∧ k = c) := by
      by_cases hlt : nth f n k < n
      · exact Or.inl hlt
      · refine Or.inr ⟨by have := nth_le f n k; omega, ?_⟩
        have := cnt_iff f n k
        have := HCE.out
        omega
    rcases hend with hlt | ⟨hlt, hkc⟩
    · have hk1 : k + 1 ≤ c := by have := (cnt_iff f n k).1 hlt; have := HCE.out; omega
      have hs4 := szAt_le4 f n (nth f n k)
      have hs1 := szAt_pos (f := f) hlt
      have HFS := hidden (floor_self hlt)
      have Hsu := hidden (startsL_succ f n k)
      have HN : Hid (nth f n (k + 1) = nth f n k + szAt f n (nth f n k)) := rfl
      generalize hA : nth f n k = A at *
      clear hA
      go_wp2_with (at_builtin; refine wpList_append_own _ rfl _ _ 26 rfl w1.heap.size 3 i0 (.int .i64 0) 1 8 Tryd.underlying26 hi hz0 hz1 hz2 rfl (by decide) _ _ _ rfl (hown.alloc _) ⟨wr.heap.size, 0, none⟩ 1 1 [.int .i64 A] rfl rfl ?c1 ?c2 ?c3 ?c4 ?c5 ?_)
      case c1 =>
        intro j u hj
        match j, hj with
        | 0, hj => simp at hj; subst hj; simp [Addr.add]
      case c2 => intro u hu; simp at hu; subst hu; rfl
      case c3 => unfold maxLen; omega
      case c4 => omega
      case c5 => have := hnx.size; simp; omega
      intro v' w2 hown' hgrow _
      have hb2 := below_append hnx.size hown hnx hgrow
      have Hw2 : Hid (w2.ownsRow w1.heap.size 3 1 v' (k + 1) (startsL f n (k + 1))) := by unfold Hid; rw [Hsu.out]; exact hown'
      have HC2 := hidden (HC1.out.below hb2)
      have HT2 := hidden (tabs_below HT1.out hb2)
      have Hb2 := hidden hb2
      have cn := next_in f b off n cap A w2 hf (by omega) hcap HT2.out HC2.out hlt
      clear hown' hgrow hown hb2 hnx Hsu
      generalize szAt f n A = s at *
      go_wp2_with fail
      refine cn.mono ?_
      rintro e w3 ⟨rfl, hb3⟩
      have HC3 := hidden (HC2.out.below hb3)
      have HT3 := hidden (tabs_below HT2.out hb3)
      have Hb3 := hidden (Hb2.out.trans (hb3.mono Hb2.out.size))
      have cf := floor_any (.slice (some ⟨b, off, none⟩) n cap) f n (A : Nat) w3 HT3.out ⟨hf, by omega, Or.inr ⟨b, off, cap, rfl, hcap, HC3.out⟩⟩
      rw [HFS.out] at cf
      have Hw3 : Hid (w3.ownsRow w1.heap.size 3 1 v' (k + 1) (startsL f n (k + 1))) := ownsRow_below Hw2.out hb3
      clear cn hb3 Hw2
      go_wp2_with fail
      refine cf.mono ?_
      rintro e w4 ⟨rfl, hb4⟩
      have Hb4 := hidden (Hb3.out.trans (hb4.mono Hb3.out.size))
      have Hw4 : Hid (w4.ownsRow w1.heap.size 3 1 v' (k + 1) (startsL f n (k + 1))) := ownsRow_below Hw3.out hb4
      clear cf hb4 Hw3
      go_wp2
      go_roundw
      case rel => exact ⟨k + 1, hk1, by rw [HN.out]; go_num, Hw4.out, Hb4.out⟩
      case measure => simp [intOf]; omega
    · have hz : ¬ ((nth f n k : Int) < (n : Int)) := by omega
      have Hon : Hid (IsInts wr u3 c (nth f n)) := by
        have : wr.ownsRow w1.heap.size 3 1 u3 c (startsL f n c) := by rw [← hkc]; exact hown
        exact isInts_of this
      have hlen : ∃ oa oc, u3 = .slice oa c oc := by
        rcases Hon.out with ⟨rfl, h0⟩ | ⟨gg, cc, rfl, _⟩
        · exact ⟨none, 0, by rw [h0]⟩
        · exact ⟨_, _, rfl⟩
      have HC2 := hidden (HC1.out.below hnx)
      have HT2 := hidden (tabs_below HT1.out hnx)
      have Hb2 : Hid (Below w.heap.size w wr) := Hb1.out.trans (hnx.mono Hb1.out.size)
      obtain ⟨oa, oc, rfl⟩ := hlen
      clear hkc hlt hown hnx HC1 HT1 Hb1
      generalize nth f n k = A at *
      obtain ⟨W2, hW2⟩ : ∃ W2, W2 = wr := ⟨_, rfl⟩
      subst hW2
      go_wp2
      go_loopw [4, 7] (fun v a w' => ∃ j : Nat, j ≤ c ∧ a = .int .i64 (nth f n (c - j) : Nat) ∧ w'.ownsRow W2.heap.size 3 1 v j (backL f n c j) ∧ Below W2.heap.size W2 w') (fun _ a _ => (intOf a).toNat)
      case atStart => exact ⟨0, Nat.zero_le _, by rw [Nat.sub_zero, ← HCE.out, cnt_end], World.ownsRow_nil _ _ _ _, Below.refl _ _⟩
      case round =>
        obtain ⟨j, hj, rfl, hown, hnx⟩ := hrel
        by_cases hlt : j < c
        · have hlt' : nth f n (c - 1 - j) < n := cnt_lt (by rw [HCE.out]; omega)
          have e1 : c - j = c - 1 - j + 1 := by omega
          have hs4 := szAt_le4 f n (nth f n (c - 1 - j))
          have hs1 := szAt_pos (f := f) hlt'
          have hA : nth f n (c - j) = nth f n (c - 1 - j) + szAt f n (nth f n (c - 1 - j)) := by rw [e1]; rfl
          have hlast : lastAt f (nth f n (c - j)) = szAt f n (nth f n (c - 1 - j)) := by rw [e1]; exact last_back hlt'
          have hAn := nth_le f n (c - j)
          have HC3 := hidden (HC2.out.below hnx)
          have HT3 := hidden (tabs_below HT2.out hnx)
          have cp := prev_in f b off n cap (nth f n (c - j)) wr hf (by omega) hcap HT3.out HC3.out (by omega) hAn
          rw [hlast] at cp
          have Hsu := hidden (backL_succ f n c j)
          have HE : Hid (nth f n (c - (j + 1)) = nth f n (c - 1 - j)) := by unfold Hid; rw [show c - (j + 1) = c - 1 - j by omega]
          have hsub : ((nth f n (c - j) : Nat) : Int) - ((szAt f n (nth f n (c - 1 - j)) : Nat) : Int) = ((nth f n (c - 1 - j) : Nat) : Int) := by omega
          have hpos : (0 : Int) < ((nth f n (c - j) : Nat) : Int) := by omega
          have hless : nth f n (c - 1 - j) < nth f n (c - j) := by omega
          have Hnx := hidden hnx
          have Hown := hidden hown
          have hszx := hnx.size
          clear hlast e1 hA hnx hown hlt'
          generalize szAt f n (nth f n (c - 1 - j)) = s at *
          generalize nth f n (c - j) = A at *
          generalize nth f n (c - 1 - j) = A' at *
          go_wp2_with fail
          refine cp.mono ?_
          rintro e w3 ⟨rfl, hb3⟩
          have own3 : w3.ownsRow W2.heap.size 3 1 u4 j (backL f n c j) := ownsRow_below Hown.out hb3
          have hsz3 : W2.heap.size ≤ w3.heap.size := Nat.le_trans hszx hb3.size
          have Hb3 := hidden (Hnx.out.trans (hb3.mono hszx))
          clear cp hb3
          go_wp2_with (at_builtin; refine wpList_append_own _ rfl _ _ 26 rfl W2.heap.size 3 i0 (.int .i64 0) 1 8 Tryd.underlying26 hi hz0 hz1 hz2 rfl (by decide) _ _ _ rfl (own3.alloc _) ⟨w3.heap.size, 0, none⟩ 1 1 [.int .i64 A'] rfl rfl ?c1 ?c2 ?c3 ?c4 ?c5 ?_)
          case c1 =>
            intro j u hj
            match j, hj with
            | 0, hj => simp at hj; subst hj; simp [Addr.add]
          case c2 => intro u hu; simp at hu; subst hu; rfl
          case c3 => unfold maxLen; omega
          case c4 => omega
          case c5 => simp; omega
          intro v' w4 hown' hgrow _
          have Hb4 := hidden (below_append hsz3 own3 Hb3.out hgrow)
          have Hw4 : Hid (w4.ownsRow W2.heap.size 3 1 v' (j + 1) (backL f n c (j + 1))) := by unfold Hid; rw [Hsu.out]; exact hown'
          clear hown' hgrow own3
          go_wp2
          go_roundw
          case rel => exact ⟨j + 1, by omega, by rw [HE.out], Hw4.out, Hb4.out⟩
          case measure => simp [intOf]; omega
        · have hjc : j = c := by omega
          have h00 : nth f n (c - j) = 0 := by rw [hjc, Nat.sub_self]; rfl
          have Hback : Hid (IsInts wr u4 c (fun i => nth f n (c - 1 - i))) := by
            have : wr.ownsRow W2.heap.size 3 1 u4 c (backL f n c c) := by rw [hjc] at hown; exact hown
            exact isInts_of this
          have hlen : ∃ ba bc, u4 = .slice ba c bc := by
            rcases Hback.out with ⟨rfl, h0⟩ | ⟨gg, cc, rfl, _⟩
            · exact ⟨none, 0, by rw [h0]⟩
            · exact ⟨_, _, rfl⟩
          obtain ⟨ba, bc, rfl⟩ := hlen
          have Hon3 := hidden (Hon.out.below hnx)
          have Hb3 := hidden (Hb2.out.trans (hnx.mono Hb2.out.size))
          have cc := count_any (.slice (some ⟨b, off, none⟩) n cap) f n wr ⟨hf, by omega, Or.inr ⟨b, off, cap, rfl, hcap, HC2.out.below hnx⟩⟩
          rw [HCE.out] at cc
          rw [h00]
          clear hjc h00 hown hnx Hon Hb2 HC2 HT2 hlt hj
          go_wp2_with fail
          refine cc.mono ?_
          rintro e w3 ⟨rfl, hb3⟩
          have Hon4 := hidden (Hon3.out.below hb3)
          have Hback4 := hidden (Hback.out.below hb3)
          have Hb4 := hidden (Hb3.out.trans (hb3.mono Hb3.out.size))
          clear cc hb3 Hon3 Hback Hb3
          go_wp2
          go_loopw [9] (fun i w' => ∃ k : Nat, k ≤ c ∧ i = .int .i64 k ∧ Below w3.heap.size w3 w') (fun i _ => c - (intOf i).toNat)
          case atStart => exact ⟨0, Nat.zero_le _, rfl, Below.refl _ _⟩
          case round =>
            obtain ⟨k, hk, rfl, hnx⟩ := hrel
            by_cases hlt : k < c
            · rcases Hon4.out.below hnx with ⟨_, h0⟩ | ⟨g1, gc1, e1, q1⟩
              · omega
              rcases Hback4.out.below hnx with ⟨_, h0⟩ | ⟨g2, gc2, e2, q2⟩
              · omega
              simp only [Value.slice.injEq] at e1 e2
              obtain ⟨rfl, _, rfl⟩ := e1
              obtain ⟨rfl, _, rfl⟩ := e2
              have p1 := q1 k hlt
              have p2 := q2 (c - 1 - k) (by omega)
              have e3 : c - 1 - (c - 1 - k) = k := by omega
              simp only [e3] at p2
              obtain ⟨d, hd⟩ : ∃ d, c - 1 - k = d := ⟨_, rfl⟩
              rw [hd] at p2
              have hdz : (c : Int) - 1 - (k : Int) = (d : Int) := by omega
              have hd1 : (0 : Int) ≤ (d : Int) := by omega
              have hd2 : (d : Int) < (c : Int) := by omega
              have hkz : (k : Int) < (c : Int) := by omega
              have hk0 : (0 : Int) ≤ (k : Int) := by omega
              clear q1 q2 e3 hd
              generalize nth f n k = A at *
              go_wp2
              go_quiet (fail)
              go_wp2
              go_roundw
              case rel => exact ⟨k + 1, by omega, by go_num, ⟨hnx.os, hnx.tape, hnx.output, hnx.size, hnx.block⟩⟩
              case measure => simp [intOf]; omega
            · have hz : ¬ ((k : Int) < (c : Int)) := by omega
              have Hfin := hidden (Hb4.out.trans (hnx.mono Hb4.out.size))
              clear Hon4 Hback4
              go_wp2
              go_ret
              exact ⟨rfl, Hfin.out⟩

theorem law (v : Value) (n : Nat) (f : Nat → Nat) (w : World) (hv : IsArg w v n f) (hT : Lib.Utf8Tabs 0 1 w) :
    Calls Tryd.prog 6 #[v] w fun e w' => e = .returned (.bool true) ∧ Below w.heap.size w w' := by
  by_cases hn : 300 < n
  · exact long v n f w hv hn hT
  obtain ⟨hf, _, h⟩ := hv
  rcases h with ⟨ea, ecap, rfl, rfl⟩ | ⟨b, off, cap, rfl, hcap, hc⟩
  · exact empty ea ecap f w hf hT
  · exact row b off n cap f w hf hcap hc (by omega) hT

set_option maxRecDepth 100000 in
theorem lifted (os : Os) (started : os.Started) (H : Type) (enc : TypeId × Value → H) :
    ReturnsInHanded {} Tryd.checked os 6 .any (fun w args => (Rows.glyphWalksSpec.pre enc Tryd.prog Tryd.f6 [] false w args ∧ laidMetH Tryd.prog laid w) ∧ sizedMet enc Tryd.prog Tryd.f6 (OpenSpec.ofChange Rows.glyphWalksSpec) false w args)
      (Rows.glyphWalksSpec.post enc Tryd.prog Tryd.f6 false true false false) := by
  refine returnsInHanded_of_change_and (C := Tryd.checked) (X := fun w _ => laidMetH Tryd.prog laid w) (fun _ _ _ hh h => h.of_heap hh) own started (by kernel_rfl) Tryd.func6
    (ChangeSpec.witness_shaped (enc := enc) (C := Tryd.checked) (os := os) (X := fun w _ => laidMetH Tryd.prog laid w) false (World.laidAll Tryd.prog os laid) #[.slice none 0 0] 8 (World.laidAll_os _ _ _)
      (World.shaped_of_ZipB (by kernel_rfl) (by kernel_rfl)) (by kernel_rfl) (by kernel_rfl) (by kernel_rfl) (laid_world os _)) ?_
  intro W base args ds gs before hval0 hW _ _ hL _
  have hval : ∀ (j : Nat) t v, Tryd.f6.params[j]? = some t → args[j]? = some v → Value.okWide Tryd.prog W .any base t v := hval0
  have hW' := hW
  obtain ⟨p, q, hA0, hV, rfl, _, _⟩ := hW
  have hA : DataW.TrodAll enc Tryd.prog W 0 (fun _ => true) true Tryd.f6.params.toList args.toList ds p := hA0
  rw [Tryd.params6] at hA hval
  obtain ⟨v0, vs0, d0, ds0, p0, q0, hargs, rfl, rfl, h0, r0⟩ := trodAll_cons hA
  obtain ⟨rfl, rfl, rfl⟩ := trodAll_nil r0
  obtain rfl : args = #[v0] := by cases args; simp_all
  obtain ⟨rfl, rfl⟩ := trodVars_none hV
  have lt0 : ∀ x ∈ p0, x.block < W.heap.size := by obtain ⟨m, hm⟩ := h0; exact DataW.trod_lt m _ _ _ hm
  obtain ⟨n0, f0, g0⟩ := open_bytes (hval 0 22 v0 rfl rfl) h0
  clear hA0 hval0
  simp only [List.append_nil] at hW'
  refine (law v0 n0 f0 W g0 (tabs_of_laid hL)).mono fun e W' ⟨he, bel⟩ => ?_
  subst he
  exact ⟨_, rfl, _, _, _, [], _, [], hW', trodAll_mk1 (shut_bool Tryd.underlying4 _), (trodAll_cons_mk (Below.trod laidOut (by kernel_rfl) (of_decide_eq_true (by kernel_rfl)) h0 bel lt0) trodAll_mk0), rfl, bel.frame _, fun h => by cases h⟩

theorem said : Rows.GlyphWalksSaid :=
  OpenClaim.holds_of_wide 6 Tryd.f6 rfl rfl rfl rfl rfl rfl rfl ⟨rfl, rfl, rfl, rfl, rfl⟩ rfl rfl rfl rfl rfl (by kernel_rfl) Tryd.func6 (by kernel_rfl)
    (of_decide_eq_true (by kernel_rfl)) (by unfold Func.isWrapper; first | (rw [if_pos (by decide +kernel)]; kernel_rfl) | (rw [if_neg (by decide +kernel)]; exact ⟨rfl, rfl⟩))
    (fun os started H enc _ => lifted os started H enc)

theorem plain (f : FuncId) (fn : Func) (hf : Tryd.pinned.checked.prog.funcNamed Tryd.f6.name = some f) (hfn : Tryd.pinned.checked.prog.funcs[f]? = some fn) :
    false = Tryd.pinned.checked.prog.looks [] ∧ ∀ (j : Nat) t, fn.params[j]? = some t → Tryd.pinned.checked.prog.wantsStandIn t = false := by
  obtain rfl : f = 6 := Option.some.inj ((show Tryd.prog.funcNamed Tryd.f6.name = some 6 by kernel_rfl).symm.trans hf) |>.symm
  obtain rfl : fn = Tryd.f6 := (Option.some.inj (Tryd.func6.symm.trans hfn)).symm
  refine ⟨by kernel_rfl, fun j t ht => ?_⟩
  rw [Tryd.params6] at ht
  have hm : t ∈ [22] := by simpa using Array.mem_of_getElem? ht
  have hall : ([22].all fun u => !Tryd.prog.wantsStandIn u) = true := by kernel_rfl
  exact (show Tryd.prog.wantsStandIn t = false from Bool.not_eq_true' _ |>.mp (List.all_eq_true.1 hall t hm))

theorem card : Rows.GlyphWalksCardSaid :=
  Claim7.holds_tied_plain_at .later [] _ _ _ _ said (fun _ h => by cases h) (by kernel_rfl) (fun _ h => by cases h) glyphWalks_row_tie rfl ⟨rfl, rfl⟩ (by kernel_rfl) rfl plain (by kernel_rfl)
#print axioms card
end Go.Proofs.YtlceplcjjhliaaaDoor.Walks
