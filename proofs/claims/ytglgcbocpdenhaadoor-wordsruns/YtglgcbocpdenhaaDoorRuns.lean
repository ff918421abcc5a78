/- WordsRuns is true of any bytes: the runs are one behind the other, each of one class, the next one of another; and they are the document's. No condition but the card's own: Go's two tables of unicode/utf8 hold what the library's text lays. -/
import Derived.Test.YtglgcbocpdenhaaDoorArgs
import Derived.Test.YtglgcbocpdenhaaDoorCards
import Derived.Test.YtglgcbocpdenhaaDoorTie
namespace Go.Proofs.YtglgcbocpdenhaaDoor.Runs
open Go.ChangeShapes Go.WideShapes Go.ChangeAt Go.ChangeMaps Go.RowKit Go.Proofs.PlatenGlyph Go.Proofs.PlatenWords
set_option linter.unusedVariables false

theorem chain_drop {f : Nat → Nat} {n : Nat} {l : List (Nat × Nat)} {i q b : Nat} (hi : i < l.length) (h : Chain f n (l.drop i) q b) : (l.getD i (0, 0)).1 = q ∧ PlatenWords.Good f n (q, (l.getD i (0, 0)).2) ∧ Chain f n (l.drop (i + 1)) (q + (l.getD i (0, 0)).2) b := by
  rw [List.drop_eq_getElem_cons hi] at h
  obtain ⟨h1, h2, h3⟩ := h
  rw [getD_eq hi]
  refine ⟨h1, ?_, h3⟩
  have e : (q, l[i].2) = l[i] := by rw [← h1]
  rw [e]; exact h2

set_option maxHeartbeats 400000 in
theorem long (v : Value) (n : Nat) (f : Nat → Nat) (w : World) (hv : IsArg w v n f) (hn : 300 < n) (hT : Lib.Utf8Tabs 0 1 w) :
    Calls Tryd.prog 4 #[v] w fun e w' => e = .returned (.bool true) ∧ Below w.heap.size w w' := by
  have cs := ex_any w hT
  have HT := hidden hT
  obtain ⟨ea, cap, rfl⟩ := hv.val
  have hnz : 300 < (n : Int) := by omega
  clear hT hv
  go_enter Tryd.func4, Tryd.ntmps4
  go_wp2_with fail
  refine cs.mono ?_
  rintro e w1 ⟨rfl, hb⟩
  have cs2 := ex_any w1 (tabs_below HT.out hb)
  go_wp2_with fail
  refine cs2.mono ?_
  rintro e w2 ⟨rfl, hb2⟩
  go_wp2
  go_ret
  exact ⟨rfl, hb.trans (hb2.mono hb.size)⟩

set_option maxRecDepth 20000 in
set_option maxHeartbeats 4000000 in
theorem law (v : Value) (n : Nat) (f : Nat → Nat) (w : World) (hv : IsArg w v n f) (hT : Lib.Utf8Tabs 0 1 w) :
    Calls Tryd.prog 4 #[v] w fun e w' => e = .returned (.bool true) ∧ Below w.heap.size w w' := by
  by_cases hn : 300 < n
  · exact long v n f w hv hn hT
  have cs := ex_any w hT
  have HT := hidden hT
  have HV := hidden (hv.bytes (by omega))
  have hf := HV.out.1
  have hnz : ¬ (300 < (n : Int)) := by omega
  obtain ⟨ea, cap, rfl⟩ := hv.val
  clear hT hv
  go_enter Tryd.func4, Tryd.ntmps4
  go_wp2_with fail
  refine cs.mono ?_
  rintro e w1 ⟨rfl, hb⟩
  have V1 := hidden (HV.out.below hb)
  have T1 := hidden (tabs_below HT.out hb)
  have B1 := hidden hb
  clear cs hb HV
  have c1 := runs_any _ n f w1 hf (by omega) (Row.of V1.out)
  have HCh := hidden (runs_chain f n)
  have hml := rns_len_le f n n
  have HRR : ∀ w2, Row w2 (.slice ea n cap) n f → Calls Tryd.prog 16 #[.slice ea n cap] w2 fun e w' => ∃ l, e = .returned l ∧ IsSp w' l (rns f n n) ∧ Below w2.heap.size w2 w' := fun w2 h => rruns_any _ n f w2 hf (by omega) h
  have HR := hidden HRR
  clear HRR
  generalize rns f n n = R at *
  have hml2 : R.length ≤ 300 := by omega
  clear hml
  go_wp2_with fail
  refine c1.mono ?_
  rintro e w2 ⟨rv, rfl, hsp, hb2⟩
  have HSp := hidden hsp
  obtain ⟨ra, rcap, rfl, hrow⟩ := hsp
  have Hrow := hidden hrow
  have B2 := hidden (B1.out.trans (hb2.mono B1.out.size))
  have V2 := hidden (V1.out.below hb2)
  obtain ⟨ea', cap', hva, hvrow⟩ := Row.of V2.out
  injection hva with hva1 hva2 hva3
  subst hva1
  subst hva3
  have HVrow := hidden hvrow
  clear hb2 c1 hrow hva2 hvrow
  go_wp2
  go_loopw [4, 5] (fun at' i wr => ∃ (k q : Nat), k ≤ R.length ∧ q ≤ n ∧ i = .int .i64 (k : Nat) ∧ at' = .int .i64 (q : Nat) ∧ Chain f n (R.drop k) q n ∧ Below w2.heap.size w2 wr) (fun _ i _ => R.length - (intOf i).toNat)
  case atStart => exact ⟨0, 0, Nat.zero_le _, Nat.zero_le _, rfl, rfl, HCh.out, Below.refl _ _⟩
  case round =>
    obtain ⟨k, q, hk, hqn, rfl, rfl, hch, hnx⟩ := hrel
    by_cases hlt : k < R.length
    · obtain ⟨hx, hgood, hch2⟩ := chain_drop hlt hch
      obtain ⟨g, rfl, hrc, hcells⟩ := Hrow.out (by omega)
      obtain ⟨c1, c2⟩ := hcells k hlt
      rw [hx] at c1
      generalize (R.getD k (0, 0)).2 = m at *
      obtain ⟨g1, g2, g3, g4, g5⟩ := hgood
      simp only at g1 g2 g3 g4 g5
      obtain ⟨b, off, rfl, hcap, hc⟩ := HVrow.out (by omega)
      obtain ⟨z, hz⟩ : ∃ z, q + m = z := ⟨_, rfl⟩
      have hsum : (q : Int) + (m : Int) = (z : Int) := by omega
      have hlz : (k : Int) < (R.length : Int) := by omega
      have hm1 : ¬ ((m : Int) < 1) := by omega
      have hm2 : ¬ ((m : Int) > (n : Int) - (q : Int)) := by omega
      have Hcls : Hid (∀ j, q ≤ j → j < z → cls (f j) = cls (f q)) := fun j h1 h2 => g5 j h1 (by omega)
      have Hcells : Hid (∀ wr, Below w2.heap.size w2 wr → Cells wr b off n f ∧ wr.cell? ⟨g, k * 2, none⟩ = some (.int .i64 q) ∧ wr.cell? ⟨g, k * 2 + 1, none⟩ = some (.int .i64 m)) := fun wr hb => by
        refine ⟨hc.below hb, ?_, ?_⟩
        · rw [hb.cell (p := ⟨g, k * 2, none⟩) (World.block_lt_of_cell? _ _ c1)]; exact c1
        · rw [hb.cell (p := ⟨g, k * 2 + 1, none⟩) (World.block_lt_of_cell? _ _ c2)]; exact c2
      rw [hz] at g4 g2 hch2
      have Hg4 := hidden g4
      have Hch2 := hidden hch2
      have hqz : q < z := by omega
      have xq := hf q
      clear hch hch2 g3 g4 g5 hcells hx hc hz HCh c1 c2
      obtain ⟨_, c1, c2⟩ := Hcells.out wr hnx
      have Hnx := hidden hnx
      clear hnx
      go_wp2
      clear c1 c2
      go_loopw [6] (fun kk wr => ∃ j : Nat, q ≤ j ∧ j ≤ z ∧ kk = .int .i64 (j : Nat) ∧ Below w2.heap.size w2 wr) (fun kk _ => z - (intOf kk).toNat)
      case atStart => exact ⟨q, Nat.le_refl _, by omega, rfl, Hnx.out⟩
      case round =>
        obtain ⟨j, hqj, hjz, rfl, hnx2⟩ := hrel
        obtain ⟨hcl, c1, c2⟩ := Hcells.out _ hnx2
        have Hnx2 := hidden hnx2
        clear hnx2
        by_cases hj : j < z
        · have hjz2 : (j : Int) < (z : Int) := by omega
          have gj := hcl j (by omega)
          have gq := hcl q (by omega)
          have xj := hf j
          have hjn : (j : Int) < (n : Int) := by omega
          have hqn2 : (q : Int) < (n : Int) := by omega
          have hne : (((cls (f j) : Nat) : Int) != ((cls (f q) : Nat) : Int)) = false := by
            rw [Hcls.out j hqj hj]; simp
          have l0 := cls_le (f j)
          have l1 := cls_le (f q)
          clear Hcls hf hcl
          generalize f j = y1 at *
          generalize f q = y0 at *
          go_wp2_with fail
          go_quiet ((go_at_call 12; exact Calls.quiet_of_same (class_any _ _ (by assumption))))
          go_wp2
          go_roundw
          case rel => exact ⟨j + 1, by omega, by omega, by go_num, below_dN Hnx2.out _⟩
          case measure => simp [intOf]; omega
        · have hjz2 : ¬ ((j : Int) < (z : Int)) := by omega
          by_cases hzn : z < n
          · have gz := hcl z hzn
            have xz := hf z
            obtain ⟨y, hy⟩ : ∃ y, z = y + 1 := ⟨z - 1, by omega⟩
            have gy := hcl y (by omega)
            have xy := hf y
            have hsub : (z : Int) - 1 = (y : Int) := by omega
            have hzz : (z : Int) < (n : Int) := by omega
            have hyn : (y : Int) < (n : Int) := by omega
            have hne : (((cls (f z) : Nat) : Int) == ((cls (f y) : Nat) : Int)) = false := by
              have := bnd_iff.1 Hg4.out
              rw [show z - 1 = y by omega] at this
              simp
              omega
            have l0 := cls_le (f z)
            have l1 := cls_le (f y)
            clear Hcls hf hcl xq hy
            generalize f z = y1 at *
            generalize f y = y0 at *
            go_wp2_with fail
            go_quiet ((go_at_call 12; exact Calls.quiet_of_same (class_any _ _ (by assumption))))
            go_wp2
            go_roundw
            case rel => exact ⟨k + 1, z, by omega, by omega, by go_num, rfl, Hch2.out, below_dN Hnx2.out _⟩
            case measure => simp [intOf]; omega
          · have hzz : ¬ ((z : Int) < (n : Int)) := by omega
            clear Hcls hcl xq
            go_wp2_with fail
            go_quiet (fail)
            go_wp2
            go_roundw
            case rel => exact ⟨k + 1, z, by omega, by omega, by go_num, rfl, Hch2.out, below_dN Hnx2.out _⟩
            case measure => simp [intOf]; omega
    · have hlz : ¬ ((k : Int) < (R.length : Int)) := by omega
      have hqe : q = n := by
        rw [List.drop_eq_nil_of_le (by omega)] at hch; exact hch
      subst hqe
      have hrow3 := Row.of (V2.out.below hnx)
      have cr := HR.out wr hrow3
      have HSp3 := hidden (HSp.out.below hnx)
      have B3 := hidden (B2.out.trans (hnx.mono B2.out.size))
      clear hch hnx hrow3
      go_wp2_with fail
      refine cr.mono ?_
      rintro e w4 ⟨rv4, rfl, hsp4, hb4⟩
      have cs4 := same_any _ _ R w4 (by omega) (HSp3.out.below hb4) hsp4
      have B4 := hidden (B3.out.trans (hb4.mono B3.out.size))
      clear cr hsp4 hb4
      go_wp2_with fail
      refine cs4.mono ?_
      rintro e w5 ⟨rfl, hb5⟩
      have B5 := hidden (B4.out.trans (hb5.mono B4.out.size))
      clear cs4 hb5
      go_wp2
      go_ret
      exact ⟨rfl, B5.out⟩

set_option maxRecDepth 100000 in
theorem lifted (os : Os) (started : os.Started) (H : Type) (enc : TypeId × Value → H) :
    ReturnsInHanded {} Tryd.checked os 4 .any (fun w args => (Rows.wordsRunsSpec.pre enc Tryd.prog Tryd.f4 [] false w args ∧ laidMetH Tryd.prog laid w) ∧ sizedMet enc Tryd.prog Tryd.f4 (OpenSpec.ofChange Rows.wordsRunsSpec) false w args)
      (Rows.wordsRunsSpec.post enc Tryd.prog Tryd.f4 false true false false) := by
  refine returnsInHanded_of_change_and (C := Tryd.checked) (X := fun w _ => laidMetH Tryd.prog laid w) (fun _ _ _ hh h => h.of_heap hh) own started (by kernel_rfl) Tryd.func4
    (ChangeSpec.witness_shaped (enc := enc) (C := Tryd.checked) (os := os) (X := fun w _ => laidMetH Tryd.prog laid w) false (World.laidAll Tryd.prog os laid) #[.slice none 0 0] 8 (World.laidAll_os _ _ _)
      (World.shaped_of_ZipB (by kernel_rfl) (by kernel_rfl)) (by kernel_rfl) (by kernel_rfl) (by kernel_rfl) (laid_world os _)) ?_
  intro W base args ds gs before hval0 hW _ _ hL _
  have hval : ∀ (j : Nat) t v, Tryd.f4.params[j]? = some t → args[j]? = some v → Value.okWide Tryd.prog W .any base t v := hval0
  have hW' := hW
  obtain ⟨p, q, hA0, hV, rfl, _, _⟩ := hW
  have hA : DataW.TrodAll enc Tryd.prog W 0 (fun _ => true) true Tryd.f4.params.toList args.toList ds p := hA0
  rw [Tryd.params4] at hA hval
  obtain ⟨v0, vs0, d0, ds0, p0, q0, hargs, rfl, rfl, h0, r0⟩ := trodAll_cons hA
  obtain ⟨rfl, rfl, rfl⟩ := trodAll_nil r0
  obtain rfl : args = #[v0] := by cases args; simp_all
  obtain ⟨rfl, rfl⟩ := trodVars_none hV
  have lt0 : ∀ x ∈ p0, x.block < W.heap.size := by obtain ⟨m, hm⟩ := h0; exact DataW.trod_lt m _ _ _ hm
  obtain ⟨n0, f0, g0⟩ := open_bytes (hval 0 25 v0 rfl rfl) h0
  clear hA0 hval0
  simp only [List.append_nil] at hW'
  refine (law v0 n0 f0 W g0 (tabs_of_laid hL)).mono fun e W' ⟨he, bel⟩ => ?_
  subst he
  exact ⟨_, rfl, _, _, _, [], _, [], hW', trodAll_mk1 (shut_bool Tryd.underlying4 _), (trodAll_cons_mk (Below.trod laidOut (by kernel_rfl) (of_decide_eq_true (by kernel_rfl)) h0 bel lt0) trodAll_mk0), rfl, bel.frame _, fun h => by cases h⟩

theorem said : Rows.WordsRunsSaid :=
  OpenClaim.holds_of_wide 4 Tryd.f4 rfl rfl rfl rfl rfl rfl rfl ⟨rfl, rfl, rfl, rfl, rfl⟩ rfl rfl rfl rfl rfl (by kernel_rfl) Tryd.func4 (by kernel_rfl)
    (of_decide_eq_true (by kernel_rfl)) (by unfold Func.isWrapper; first | (rw [if_pos (by decide +kernel)]; kernel_rfl) | (rw [if_neg (by decide +kernel)]; exact ⟨rfl, rfl⟩))
    (fun os started H enc _ => lifted os started H enc)

theorem plain (f : FuncId) (fn : Func) (hf : Tryd.pinned.checked.prog.funcNamed Tryd.f4.name = some f) (hfn : Tryd.pinned.checked.prog.funcs[f]? = some fn) :
    false = Tryd.pinned.checked.prog.looks [] ∧ ∀ (j : Nat) t, fn.params[j]? = some t → Tryd.pinned.checked.prog.wantsStandIn t = false := by
  obtain rfl : f = 4 := Option.some.inj ((show Tryd.prog.funcNamed Tryd.f4.name = some 4 by kernel_rfl).symm.trans hf) |>.symm
  obtain rfl : fn = Tryd.f4 := (Option.some.inj (Tryd.func4.symm.trans hfn)).symm
  refine ⟨by kernel_rfl, fun j t ht => ?_⟩
  rw [Tryd.params4] at ht
  have hm : t ∈ [25] := by simpa using Array.mem_of_getElem? ht
  have hall : ([25].all fun u => !Tryd.prog.wantsStandIn u) = true := by kernel_rfl
  exact (show Tryd.prog.wantsStandIn t = false from Bool.not_eq_true' _ |>.mp (List.all_eq_true.1 hall t hm))

theorem card : Rows.WordsRunsCardSaid :=
  Claim7.holds_tied_plain_at .later [] _ _ _ _ said (fun _ h => by cases h) (by kernel_rfl) (fun _ h => by cases h) wordsRuns_row_tie rfl ⟨rfl, rfl⟩ (by kernel_rfl) rfl plain (by kernel_rfl)
#print axioms card
end Go.Proofs.YtglgcbocpdenhaaDoor.Runs
