/- WordsThere is true of any bytes: word by word on from the beginning, and word by word back from the end, one comes by the same places. No condition but the card's own: Go's two tables of unicode/utf8 hold what the library's text lays. -/
import Derived.Test.YtglgcbocpdenhaaDoorArgs
import Derived.Test.YtglgcbocpdenhaaDoorWdG
import Derived.Test.YtglgcbocpdenhaaDoorCards
import Derived.Test.YtglgcbocpdenhaaDoorTie
namespace Go.Proofs.YtglgcbocpdenhaaDoor.There
open Go.ChangeShapes Go.WideShapes Go.ChangeAt Go.ChangeMaps Go.RowKit Go.Proofs.PlatenGlyph Go.Proofs.PlatenWords
set_option linter.unusedVariables false

theorem info3 : (Tryd.prog.info? 3).map (fun i => (i.zero, i.size, i.bytes)) = some (some (.int .i64 0), 1, 8) := by kernel_rfl
def intsV (l : List Nat) : List Value := l.map fun c => Value.int .i64 (c : Nat)
theorem intsV_snoc (l : List Nat) (c : Nat) : intsV (l ++ [c]) = intsV l ++ [Value.int .i64 (c : Nat)] := by simp [intsV]
/-- A slice of numbers. -/
def IsI (w : World) (v : Value) (l : List Nat) : Prop :=
  ∃ a cap, v = .slice a l.length cap ∧ (0 < l.length → ∃ g, a = some ⟨g, 0, none⟩ ∧ l.length ≤ cap ∧ ∀ i, i < l.length → w.cell? ⟨g, i, none⟩ = some (.int .i64 (l.getD i 0 : Nat)))
theorem IsI.below {w w' : World} {v : Value} {l : List Nat} (h : IsI w v l) (hb : Below w.heap.size w w') : IsI w' v l := by
  obtain ⟨a, cap, rfl, h⟩ := h
  refine ⟨a, cap, rfl, fun hl => ?_⟩
  obtain ⟨g, rfl, hc, hr⟩ := h hl
  refine ⟨g, rfl, hc, fun i hi => ?_⟩
  have h1 := hr i hi
  rw [hb.cell (p := ⟨g, i, none⟩) (World.block_lt_of_cell? _ _ h1)]
  exact h1
theorem isI_of {w : World} {base : Nat} {v : Value} {l : List Nat} (h : w.ownsRow base 3 1 v l.length (intsV l)) : IsI w v l := by
  have hcl := fun g => h.cells (g := g)
  rcases h.2 with ⟨rfl, h0⟩ | ⟨g, cap, cur, rfl, hbg, hg, hnc, hcm, hcs, htake⟩
  · exact ⟨none, 0, by rw [h0], fun hl => by omega⟩
  · refine ⟨_, cap, rfl, fun _ => ⟨g, rfl, hnc, fun i hi => ?_⟩⟩
    have h1 : (intsV l)[i]? = some (.int .i64 (l.getD i 0 : Nat)) := by
      unfold intsV
      rw [List.getElem?_map, List.getElem?_eq_getElem hi]
      simp [List.getD_eq_getElem?_getD, List.getElem?_eq_getElem hi]
    have g1 := hcl g rfl _ _ h1
    have ea : ∀ j, (⟨g, 0, none⟩ : Addr).add j = ⟨g, j, none⟩ := fun j => by unfold Addr.add; split <;> simp_all
    rw [ea] at g1
    exact g1
theorem rev_get {l m : List Nat} (h : l = m.reverse) {i : Nat} (hi : i < l.length) : m.getD (l.length - 1 - i) 0 = l.getD i 0 := by
  subst h
  rw [List.length_reverse] at hi ⊢
  rw [List.getD_eq_getElem?_getD, List.getD_eq_getElem?_getD, List.getElem?_reverse hi]

set_option maxHeartbeats 400000 in
theorem long (v : Value) (n : Nat) (f : Nat → Nat) (w : World) (hv : IsArg w v n f) (hn : 200 < n) (hT : Lib.Utf8Tabs 0 1 w) :
    Calls Tryd.prog 9 #[v] w fun e w' => e = .returned (.bool true) ∧ Below w.heap.size w w' := by
  have cs := ex_any w hT
  have HT := hidden hT
  obtain ⟨ea, cap, rfl⟩ := hv.val
  have hnz : 200 < (n : Int) := by omega
  clear hT hv
  go_enter Tryd.func9, Tryd.ntmps9
  go_wp2_with fail
  refine cs.mono ?_
  rintro e w1 ⟨rfl, hb⟩
  have cs2 := ex_any w1 (tabs_below HT.out hb)
  go_wp2_with fail
  refine cs2.mono ?_
  rintro e w2 ⟨rfl, hb2⟩
  go_wp2
  go_ret
  exact ⟨rfl, hb.trans (hb2.mono hb.size)⟩

set_option maxRecDepth 20000 in
set_option maxHeartbeats 4000000 in
theorem law (v : Value) (n : Nat) (f : Nat → Nat) (w : World) (hv : IsArg w v n f) (hT : Lib.Utf8Tabs 0 1 w) :
    Calls Tryd.prog 9 #[v] w fun e w' => e = .returned (.bool true) ∧ Below w.heap.size w w' := by
  by_cases hn : 200 < n
  · exact long v n f w hv hn hT
  have cs := ex_any w hT
  have HT := hidden hT
  have HV := hidden (hv.bytes (by omega))
  have hf := HV.out.1
  have hnz : ¬ (200 < (n : Int)) := by omega
  obtain ⟨ea, cap, rfl⟩ := hv.val
  clear hT hv
  go_enter Tryd.func9, Tryd.ntmps9
  go_wp2_with fail
  refine cs.mono ?_
  rintro e w1 ⟨rfl, hb⟩
  have V1 := hidden (HV.out.below hb)
  have T1 := hidden (tabs_below HT.out hb)
  have B1 := hidden hb
  clear cs hb HV
  obtain ⟨i0, hi, hz0, hz1, hz2⟩ := info_parts info3
  go_wp2
  go_loopw [3, 5] (fun v i wr => ∃ k : Nat, k ≤ n ∧ i = .int .i64 (k : Nat) ∧ wr.ownsRow w1.heap.size 3 1 v (wl f n (min (k + 1) n)).length (intsV (wl f n (min (k + 1) n))) ∧ Below w1.heap.size w1 wr) (fun _ i _ => n - (intOf i).toNat)
  case atStart =>
    refine ⟨0, Nat.zero_le _, rfl, ?_, Below.refl _ _⟩
    have e : wl f n (min (0 + 1) n) = [] := by
      have : min (0 + 1) n = 0 ∨ min (0 + 1) n = 1 := by omega
      rcases this with e | e
      · rw [e]; rfl
      · rw [e]; rfl
    rw [e]
    exact World.ownsRow_nil _ _ _ _
  case round =>
    obtain ⟨k, hk, rfl, hown, hnx⟩ := hrel
    by_cases hlt : k < n
    · have cf := forward_in _ n k f wr hf (by omega) (Row.of (V1.out.below hnx)) hlt
      have hwl := wl_len f n (min (k + 1) n)
      rw [show min (k + 1) n = k + 1 by omega] at hown hwl
      have Hown := hidden hown
      have Hnx := hidden hnx
      clear hown hnx
      go_wp2_with fail
      refine cf.mono ?_
      rintro e w2 ⟨r, rfl, hr, hb2⟩
      have hown2 := own_below Hown.out hb2
      have Hnx2 := hidden (Hnx.out.trans (hb2.mono Hnx.out.size))
      have hsz := Hnx2.out.size
      have hr1 : ¬ ((r : Int) ≤ (k : Int)) := by have := hr.1; omega
      have hr2 : ¬ ((r : Int) > (n : Int)) := by have := hr.2.1; omega
      have hrk : k < r := hr.1
      have hrn : r ≤ n := hr.2.1
      clear hb2 cf
      by_cases hrl : r < n
      · have hrz : (r : Int) < (n : Int) := by omega
        have Hw : Hid (wl f n (min (r + 1) n) = wl f n (k + 1) ++ [r]) := by unfold Hid; rw [show min (r + 1) n = r + 1 by omega]; exact wl_next2 hr hrl
        clear hr
        generalize wl f n (k + 1) = L at *
        go_wp2_with (at_builtin; refine wpList_append_own _ rfl _ _ 35 rfl w1.heap.size 3 i0 (.int .i64 0) 1 8 Tryd.underlying35 hi hz0 hz1 hz2 rfl (by decide) _ _ _ rfl (hown2.alloc _) ⟨w2.heap.size, 0, none⟩ 1 1 [.int .i64 r] rfl rfl ?c1 ?c2 ?c3 ?c4 ?c5 ?_)
        case c1 =>
          intro j u hj
          match j, hj with
          | 0, hj => simp at hj; subst hj; simp [Addr.add]
        case c2 => intro u hu; simp at hu; subst hu; rfl
        case c3 => unfold maxLen; omega
        case c4 => omega
        case c5 => simp; omega
        intro v' w3 hown' hgrow _
        have Hb3 := hidden (below_append2 hsz hown2 Hnx2.out hgrow)
        have Hw3 := hidden hown'
        clear hown' hgrow hown2
        go_wp2
        go_roundw
        case rel => exact ⟨r, hrn, rfl, by rw [Hw.out, intsV_snoc, List.length_append]; exact Hw3.out, Hb3.out⟩
        case measure => simp [intOf]; omega
      · have hrz : ¬ ((r : Int) < (n : Int)) := by omega
        have Hw : Hid (wl f n (min (r + 1) n) = wl f n (k + 1)) := by
          unfold Hid
          rw [← wl_next hr]; congr 1; omega
        have Hown2 := hidden hown2
        clear hr hown2
        go_wp2
        go_roundw
        case rel => exact ⟨r, hrn, rfl, by rw [Hw.out]; exact Hown2.out, Hnx2.out⟩
        case measure => simp [intOf]; omega
    · have hkn : k = n := by omega
      subst hkn
      rw [show min (k + 1) k = k by omega] at hown
      have hwl := wl_len f k k
      have HOn := hidden (isI_of hown)
      have cf := forward_out ea k cap k wr (by omega)
      have Hnx := hidden (B1.out.trans (hnx.mono B1.out.size))
      have V3 := hidden (V1.out.below hnx)
      clear hown hnx
      go_wp2_with fail
      refine cf.mono ?_
      rintro e w3 ⟨rfl, rfl⟩
      clear cf
      go_wp2
      go_loopw [4, 8] (fun v i wr => ∃ (m : Nat) (bl : List Nat), m ≤ k ∧ i = .int .i64 (m : Nat) ∧ wl f k k = wl f k m ++ bl.reverse ∧ wr.ownsRow w3.heap.size 3 1 v bl.length (intsV bl) ∧ Below w3.heap.size w3 wr) (fun _ i _ => (intOf i).toNat)
      case atStart => exact ⟨k, [], Nat.le_refl _, rfl, by simp, World.ownsRow_nil _ _ _ _, Below.refl _ _⟩
      case round =>
        obtain ⟨m, bl, hm, rfl, hbl, hown, hnx⟩ := hrel
        have hbll : bl.length ≤ k := by
          have := congrArg List.length hbl
          simp only [List.length_append, List.length_reverse] at this
          omega
        by_cases hlt2 : 0 < m
        · have cb := back_in _ k m f wr hf (by omega) (Row.of (V3.out.below hnx)) hlt2 hm
          have Hown := hidden hown
          have Hnx2 := hidden hnx
          have Hbl := hidden hbl
          clear hown hnx hbl
          go_wp2_with fail
          refine cb.mono ?_
          rintro e w4 ⟨r, rfl, hr, hb4⟩
          have hown4 := own_below Hown.out hb4
          have Hnx4 := hidden (Hnx2.out.trans (hb4.mono Hnx2.out.size))
          have hsz := Hnx4.out.size
          have hrm : r < m := hr.1
          have hr1 : ¬ ((r : Int) ≥ (m : Int)) := by omega
          have hr2 : ¬ ((r : Int) < 0) := by omega
          clear hb4 cb
          by_cases hr0 : 0 < r
          · have hrz : (r : Int) > 0 := by omega
            have Hw : Hid (wl f k k = wl f k r ++ (bl ++ [r]).reverse) := by
              unfold Hid
              rw [Hbl.out, wl_prev hr hr0]; simp
            clear hr
            go_wp2_with (at_builtin; refine wpList_append_own _ rfl _ _ 35 rfl w3.heap.size 3 i0 (.int .i64 0) 1 8 Tryd.underlying35 hi hz0 hz1 hz2 rfl (by decide) _ _ _ rfl (hown4.alloc _) ⟨w4.heap.size, 0, none⟩ 1 1 [.int .i64 r] rfl rfl ?c1 ?c2 ?c3 ?c4 ?c5 ?_)
            case c1 =>
              intro j u hj
              match j, hj with
              | 0, hj => simp at hj; subst hj; simp [Addr.add]
            case c2 => intro u hu; simp at hu; subst hu; rfl
            case c3 => unfold maxLen; omega
            case c4 => omega
            case c5 => simp; omega
            intro v' w5 hown' hgrow _
            have Hb5 := hidden (below_append2 hsz hown4 Hnx4.out hgrow)
            have Hw5 := hidden hown'
            clear hown' hgrow hown4
            go_wp2
            go_roundw
            case rel => exact ⟨r, bl ++ [r], by omega, rfl, Hw.out, by rw [intsV_snoc, List.length_append]; exact Hw5.out, Hb5.out⟩
            case measure => simp [intOf]; omega
          · have hrz : ¬ ((r : Int) > 0) := by omega
            have hr00 : r = 0 := by omega
            subst hr00
            have Hw : Hid (wl f k k = wl f k 0 ++ bl.reverse) := by
              unfold Hid
              rw [Hbl.out, wl_prev0 hr]; rfl
            have Hown4 := hidden hown4
            clear hr hown4
            go_wp2
            go_roundw
            case rel => exact ⟨0, bl, by omega, rfl, Hw.out, Hown4.out, Hnx4.out⟩
            case measure => simp [intOf]; omega
        · have hm0 : m = 0 := by omega
          subst hm0
          have hW : wl f k k = bl.reverse := by rw [hbl]; rfl
          have cb := back_out ea k cap 0 wr (by omega)
          have HBk := hidden (isI_of hown)
          have HOn5 := hidden (HOn.out.below hnx)
          have B5 := hidden (Hnx.out.trans (hnx.mono Hnx.out.size))
          have hlen : (wl f k k).length = bl.length := by rw [hW, List.length_reverse]
          clear hown hnx hbl
          obtain ⟨oa, ocap, hov, horow⟩ := HOn5.out
          obtain ⟨ba, bcap, hbv, hbrow⟩ := HBk.out
          subst hov
          subst hbv
          have Hrv : Hid (∀ i, i < bl.length → bl.getD (bl.length - 1 - i) 0 = (wl f k k).getD i 0) := fun i hi => by
            have := rev_get hW (i := i) (by rw [hlen]; exact hi)
            rwa [hlen] at this
          rw [hlen] at horow ⊢
          have HO := hidden horow
          have HBr := hidden hbrow
          clear horow hbrow hW hlen HOn5 HBk HOn
          generalize wl f k k = W at *
          obtain ⟨q, hq⟩ : ∃ q, bl.length = q := ⟨_, rfl⟩
          rw [hq] at HO HBr Hrv hbll ⊢
          clear hq
          go_wp2_with fail
          refine cb.mono ?_
          rintro e w6 ⟨rfl, rfl⟩
          clear cb
          go_wp2
          go_loopw [11] (fun i wr => ∃ j : Nat, j ≤ q ∧ i = .int .i64 (j : Nat) ∧ ∃ t, wr = w6.drewN t) (fun i _ => q - (intOf i).toNat)
          case atStart => exact ⟨0, Nat.zero_le _, rfl, 0, rfl⟩
          case round =>
            obtain ⟨j, hj, rfl, t, rfl⟩ := hrel
            by_cases hjq : j < q
            · obtain ⟨go, rfl, hoc, ho⟩ := HO.out (by omega)
              obtain ⟨gb, rfl, hbc, hbr⟩ := HBr.out (by omega)
              obtain ⟨y, hy⟩ : ∃ y, q - 1 - j = y := ⟨_, rfl⟩
              have o1 := ho j hjq
              have b1 := hbr y (by omega)
              have hrv := Hrv.out j hjq
              rw [hy] at hrv
              rw [hrv] at b1
              have hsub : (q : Int) - 1 - (j : Int) = (y : Int) := by omega
              have hjz : (j : Int) < (q : Int) := by omega
              have hyz : (y : Int) < (q : Int) := by omega
              clear ho hbr hrv hy
              generalize W.getD j 0 = x at *
              go_wp2_with fail
              go_quiet (fail)
              go_wp2
              go_roundw
              case rel => exact ⟨j + 1, by omega, by go_num, _, rfl⟩
              case measure => simp [intOf]; omega
            · have hjz : ¬ ((j : Int) < (q : Int)) := by omega
              go_wp2
              go_ret
              exact ⟨rfl, below_dN B5.out t⟩

set_option maxRecDepth 100000 in
theorem lifted (os : Os) (started : os.Started) (H : Type) (enc : TypeId × Value → H) :
    ReturnsInHanded {} Tryd.checked os 9 .any (fun w args => (Rows.wordsThereSpec.pre enc Tryd.prog Tryd.f9 [] false w args ∧ laidMetH Tryd.prog laid w) ∧ sizedMet enc Tryd.prog Tryd.f9 (OpenSpec.ofChange Rows.wordsThereSpec) false w args)
      (Rows.wordsThereSpec.post enc Tryd.prog Tryd.f9 false true false false) := by
  refine returnsInHanded_of_change_and (C := Tryd.checked) (X := fun w _ => laidMetH Tryd.prog laid w) (fun _ _ _ hh h => h.of_heap hh) own started (by kernel_rfl) Tryd.func9
    (ChangeSpec.witness_shaped (enc := enc) (C := Tryd.checked) (os := os) (X := fun w _ => laidMetH Tryd.prog laid w) false (World.laidAll Tryd.prog os laid) #[.slice none 0 0] 8 (World.laidAll_os _ _ _)
      (World.shaped_of_ZipB (by kernel_rfl) (by kernel_rfl)) (by kernel_rfl) (by kernel_rfl) (by kernel_rfl) (laid_world os _)) ?_
  intro W base args ds gs before hval0 hW _ _ hL _
  have hval : ∀ (j : Nat) t v, Tryd.f9.params[j]? = some t → args[j]? = some v → Value.okWide Tryd.prog W .any base t v := hval0
  have hW' := hW
  obtain ⟨p, q, hA0, hV, rfl, _, _⟩ := hW
  have hA : DataW.TrodAll enc Tryd.prog W 0 (fun _ => true) true Tryd.f9.params.toList args.toList ds p := hA0
  rw [Tryd.params9] at hA hval
  obtain ⟨v0, vs0, d0, ds0, p0, q0, hargs, rfl, rfl, h0, r0⟩ := trodAll_cons hA
  obtain ⟨rfl, rfl, rfl⟩ := trodAll_nil r0
  obtain rfl : args = #[v0] := by cases args; simp_all
  obtain ⟨rfl, rfl⟩ := trodVars_none hV
  have lt0 : ∀ x ∈ p0, x.block < W.heap.size := by obtain ⟨m, hm⟩ := h0; exact DataW.trod_lt m _ _ _ hm
  obtain ⟨n0, f0, g0⟩ := open_bytes (hval 0 25 v0 rfl rfl) h0
  clear hA0 hval0
  simp only [List.append_nil] at hW'
  refine (law v0 n0 f0 W g0 (tabs_of_laid hL)).mono fun e W' ⟨he, bel⟩ => ?_
  subst he
  exact ⟨_, rfl, _, _, _, [], _, [], hW', trodAll_mk1 (shut_bool Tryd.underlying4 _), (trodAll_cons_mk (Below.trod laidOut (by kernel_rfl) (of_decide_eq_true (by kernel_rfl)) h0 bel lt0) trodAll_mk0), rfl, bel.frame _, fun h => by cases h⟩

theorem said : Rows.WordsThereSaid :=
  OpenClaim.holds_of_wide 9 Tryd.f9 rfl rfl rfl rfl rfl rfl rfl ⟨rfl, rfl, rfl, rfl, rfl⟩ rfl rfl rfl rfl rfl (by kernel_rfl) Tryd.func9 (by kernel_rfl)
    (of_decide_eq_true (by kernel_rfl)) (by unfold Func.isWrapper; first | (rw [if_pos (by decide +kernel)]; kernel_rfl) | (rw [if_neg (by decide +kernel)]; exact ⟨rfl, rfl⟩))
    (fun os started H enc _ => lifted os started H enc)

theorem plain (f : FuncId) (fn : Func) (hf : Tryd.pinned.checked.prog.funcNamed Tryd.f9.name = some f) (hfn : Tryd.pinned.checked.prog.funcs[f]? = some fn) :
    false = Tryd.pinned.checked.prog.looks [] ∧ ∀ (j : Nat) t, fn.params[j]? = some t → Tryd.pinned.checked.prog.wantsStandIn t = false := by
  obtain rfl : f = 9 := Option.some.inj ((show Tryd.prog.funcNamed Tryd.f9.name = some 9 by kernel_rfl).symm.trans hf) |>.symm
  obtain rfl : fn = Tryd.f9 := (Option.some.inj (Tryd.func9.symm.trans hfn)).symm
  refine ⟨by kernel_rfl, fun j t ht => ?_⟩
  rw [Tryd.params9] at ht
  have hm : t ∈ [25] := by simpa using Array.mem_of_getElem? ht
  have hall : ([25].all fun u => !Tryd.prog.wantsStandIn u) = true := by kernel_rfl
  exact (show Tryd.prog.wantsStandIn t = false from Bool.not_eq_true' _ |>.mp (List.all_eq_true.1 hall t hm))

theorem card : Rows.WordsThereCardSaid :=
  Claim7.holds_tied_plain_at .later [] _ _ _ _ said (fun _ h => by cases h) (by kernel_rfl) (fun _ h => by cases h) wordsThere_row_tie rfl ⟨rfl, rfl⟩ (by kernel_rfl) rfl plain (by kernel_rfl)
#print axioms card
end Go.Proofs.YtglgcbocpdenhaaDoor.There
