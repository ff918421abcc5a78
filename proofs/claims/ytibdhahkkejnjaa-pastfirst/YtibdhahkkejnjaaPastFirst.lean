/- PastFirst is true of any text and any acts: all that is done undone, the text is the first one; then nothing can be undone, and nothing changes. -/
import Derived.Test.YtibdhahkkejnjaaPuG
namespace Go.Proofs.Ytibdhahkkejnjaa.PastFirst
open Go.ChangeShapes Go.WideShapes Go.ChangeAt Go.RowKit Go.Proofs.PlatenPiece
set_option linter.unusedVariables false
set_option maxRecDepth 100000

theorem all_of {l0 : List Nat} {s : Hs} (hi : Inv l0 s) (hn : s.now = []) (hd : s.done.length = 0) : s.l = l0 := by
  have h := hi.run
  rw [hn, List.length_eq_zero_iff.1 hd] at h
  exact h.symm

theorem sz_one (l : List Nat) (d0 g : List (List Ed)) (t : List Ed) : (⟨l, [], d0 ++ [t], g⟩ : Hs).sz = t.length + d0.flatten.length + g.flatten.length := by
  unfold Hs.sz
  simp only [List.flatten_append, List.flatten_cons, List.flatten_nil, List.append_nil, List.length_append, List.length_nil]
  omega
theorem sz_two (l : List Nat) (d0 g : List (List Ed)) (t : List Ed) : (⟨l, [], d0, g ++ [t]⟩ : Hs).sz = t.length + d0.flatten.length + g.flatten.length := by
  unfold Hs.sz
  simp only [List.flatten_append, List.flatten_cons, List.flatten_nil, List.append_nil, List.length_append, List.length_nil]
  omega

set_option maxHeartbeats 4000000 in
theorem law (pv : Value) (n : Nat) (l0 : List Nat) (v : Value) (xs : List AC) (w : World) (hs : IsSrc w pv n l0) (hv : IsActs w v xs) :
    Calls Try.prog 8 #[pv, v] w fun e w' => e = .returned (.bool true) ∧ Below w.heap.size w w' := by
  obtain ⟨hlt, hln, hn63, hsrc⟩ := hs
  obtain ⟨pa, pc, rfl⟩ : ∃ pa pc, pv = .slice pa n pc := by
    rcases hsrc with ⟨rfl, rfl⟩ | ⟨ad, cap, rfl, _⟩
    · exact ⟨_, _, by rw [← hln]; rfl⟩
    · exact ⟨_, _, by rw [hln]⟩
  obtain ⟨m, hm⟩ : ∃ m, xs.length = m := ⟨_, rfl⟩
  obtain ⟨va, cap, rfl⟩ : ∃ va cap, v = .slice va m cap := by
    obtain ⟨_, va, cap, rfl, _⟩ := hv
    exact ⟨va, cap, by rw [hm]⟩
  have HSrc := hidden hsrc
  have HA := hidden hv
  have Hlt := hidden hlt
  have Hln := hidden hln
  have Hm := hidden hm
  clear hsrc hv hlt hln hm
  go_enter Try.func8, Try.ntmps8
  go_wp2_with fail
  refine (moves_any w).mono ?_
  rintro q w1 ⟨rfl, hb1⟩
  have HB1 := hidden hb1
  clear hb1
  go_wp2_with fail
  refine (few_any pa n pc _ xs w1 (HA.out.below HB1.out)).mono ?_
  rintro q w2 ⟨⟨r, rfl, hr⟩, rfl⟩
  have Hr := hidden hr
  clear hr
  cases r with
  | false =>
    go_wp2_with fail
    refine (moves_any w2).mono ?_
    rintro q w3 ⟨rfl, hb3⟩
    have HB3 := hidden (HB1.out.trans (hb3.mono HB1.out.size))
    clear hb3
    go_wp2
    go_ret
    exact ⟨rfl, HB3.out⟩
  | true =>
    obtain ⟨hn60, hm24, hall⟩ := Hr.out rfl
    have Hl : Hid (l0.length ≤ 60) := by unfold Hid; rw [Hln.out]; exact hn60
    have C3 := hidden (begin_any _ _ l0 xs w2 (HSrc.out.below HB1.out) Hl.out Hlt.out (HA.out.below HB1.out) hm24 hall)
    clear hall Hr hm24
    go_wp2_with fail
    refine C3.out.mono ?_
    rintro q w3 ⟨T, H, M, s, X, R, rfl, hp, hi, hsz, hnow⟩
    have Hp := hidden hp
    have Hi := hidden hi
    have Hnow := hidden hnow
    have hD24 : s.done.length ≤ 24 := by have := hi.many; omega
    clear C3 hp hi hnow
    go_wp2_with fail
    refine (hs_depth Hp.out.hs).mono ?_
    rintro q w4 ⟨rfl, hg4⟩
    have Hp4 := hidden (Hp.out.grown hg4)
    clear hg4 Hp
    obtain ⟨D, hD⟩ : ∃ D, s.done.length = D := ⟨_, rfl⟩
    have HD := hidden hD
    rw [hD] at hD24 ⊢
    clear hD
    go_wp2
    go_loopw [11] (fun i wr => ∃ (k : Nat) (s' : Hs) (X' : Nat → Prop), k ≤ D ∧ i = .int .i64 (k : Nat) ∧ PR w2.heap.size w2 wr T H M s' s (1200 + 50 * k) X' R ∧ Inv l0 s' ∧ s'.sz ≤ 24 ∧ s'.now = [] ∧ s'.done.length + k = D) (fun i _ => D - (intOf i).toNat)
    case atStart => exact ⟨0, s, X, Nat.zero_le _, rfl, Hp4.out, Hi.out, hsz, Hnow.out, HD.out⟩
    case round =>
      obtain ⟨k, s', X', hk, rfl, hp, hi, hz, hn, hdk⟩ := hrel
      by_cases hlt : k < D
      · have hkz : (k : Int) < (D : Int) := by omega
        rcases last_or s'.done with h0 | ⟨d0, t, hdt⟩
        · rw [h0] at hdk; simp at hdk; omega
        · have hs' : s' = ⟨s'.l, [], d0 ++ [t], s'.gone⟩ := by
            cases hq : s' with
            | mk a b c d => rw [hq] at hn hdt; dsimp only at hn hdt; rw [hn, hdt]
          have hic := hi
          rw [hs'] at hic
          obtain ⟨lz, hr, hinv⟩ := hic.undo
          have hz2 : t.length + d0.flatten.length + s'.gone.flatten.length ≤ 24 := by
            have : s'.sz = (⟨s'.l, [], d0 ++ [t], s'.gone⟩ : Hs).sz := by rw [← hs']
            rw [this, sz_one] at hz
            exact hz
          have hmany := hi.many
          have hdl : d0.length + 1 + k = D := by rw [hdt] at hdk; simpa using hdk
          have C5 := hidden (hs_undo hp.hs (by omega) (by omega) (by rw [close_idem hn]; exact hdt) (by omega) (by omega) (by omega) hr)
          have Hp5 := hidden hp
          have Hinv := hidden hinv
          clear hp hi hn hdk hdt hs' hic hr hinv hmany
          go_wp2_with fail
          refine C5.out.mono ?_
          rintro q w6 ⟨vo, rfl, hrow, hst⟩
          obtain ⟨X6, hp6, _, _⟩ := Hp5.out.p hst
          have Hp6 := hidden hp6
          obtain ⟨oa, oc, rfl⟩ := row_slice hrow
          clear hrow hst hp6 C5 Hp5
          go_wp2
          go_roundw
          case rel => exact ⟨k + 1, _, X6, by omega, by go_num, Hp6.out.more (by omega), Hinv.out, by rw [sz_two]; exact hz2, rfl, by show d0.length + (k + 1) = D; omega⟩
          case measure => simp [intOf]; omega
      · have hkz : ¬ ((k : Int) < (D : Int)) := by omega
        have h0 : s'.done.length = 0 := by omega
        have hl0 := all_of hi hn h0
        have C5 := hidden (hs_undo_none hp.hs (by rw [close_idem hn]; exact List.length_eq_zero_iff.1 h0))
        have Hp5 := hidden hp
        have Hl0 := hidden hl0
        clear hp hi hn hdk h0 hl0
        go_wp2_with fail
        refine C5.out.mono ?_
        rintro q w5 ⟨rfl, rfl⟩
        clear C5
        go_wp2_with fail
        have C6 := hs_bytes Hp5.out.hs (by omega)
        rw [Hl0.out] at C6
        have HC6 := hidden C6
        clear C6
        refine HC6.out.mono ?_
        rintro q w6 ⟨rfl, hh6, hg6⟩
        have Hp6 := hidden (Hp5.out.grown hg6)
        have HH6 := hidden hh6
        clear HC6 hh6 hg6 Hp5
        go_wp2_with fail
        refine (same_src _ _ _ _ _ Hlt.out (by have := Hl.out; omega) HH6.out ((HSrc.out.below HB1.out).below Hp6.out.bl)).mono ?_
        rintro q w7 ⟨rfl, hb7⟩
        have Hp7 := hidden (Hp6.out.grown (grown_of_below hb7))
        clear hb7 Hp6 HH6
        go_wp2_with fail
        have C8 := hs_bytes Hp7.out.hs (by omega)
        rw [Hl0.out] at C8
        have HC8 := hidden C8
        clear C8
        refine HC8.out.mono ?_
        rintro q w8 ⟨rfl, hh8, hg8⟩
        have Hp8 := hidden (Hp7.out.grown hg8)
        have HH8 := hidden hh8
        clear HC8 hh8 hg8 Hp7
        go_wp2_with fail
        refine (same_src _ _ _ _ _ Hlt.out (by have := Hl.out; omega) HH8.out ((HSrc.out.below HB1.out).below Hp8.out.bl)).mono ?_
        rintro q w9 ⟨rfl, hb9⟩
        have Hp9 := hidden (Hp8.out.grown (grown_of_below hb9))
        have Hb := hidden (HB1.out.trans (Hp9.out.bl.mono HB1.out.size))
        clear hb9 Hp8 HH8 Hp9
        go_wp2
        go_ret
        exact ⟨rfl, Hb.out⟩

set_option maxRecDepth 100000 in
theorem lifted (os : Os) (started : os.Started) (H : Type) (enc : TypeId × Value → H) :
    ReturnsInHanded {} Try.checked os 8 .any (Rows.pastFirstSpec.pre6 enc Try.prog Try.f8 Rows.pastFirstRow.domain false) (Rows.pastFirstSpec.post enc Try.prog Try.f8 false true false false) := by
  refine returnsInHanded_of_change (C := Try.checked) own started (by kernel_rfl) Try.func8
    (ChangeSpec.witness6 (enc := enc) (C := Try.checked) false ⟨#[], #[.slice none 0 0, .slice none 0 0], []⟩ 8 (by kernel_rfl) (by kernel_rfl) (by kernel_rfl) (by kernel_rfl)) ?_
  intro W base args ds gs before hval0 hW _ _
  have hval : ∀ (j : Nat) t v, Try.f8.params[j]? = some t → args[j]? = some v → Value.okWide Try.prog W .any base t v := hval0
  have hW' := hW
  obtain ⟨p, q, hA0, hV, rfl, _, _⟩ := hW
  have hA : DataW.TrodAll enc Try.prog W 0 (fun _ => true) true Try.f8.params.toList args.toList ds p := hA0
  rw [Try.params8] at hA hval
  obtain ⟨v0, vs0, d0, ds0, p0, q0, hargs, rfl, rfl, h0, r0⟩ := trodAll_cons hA
  obtain ⟨v1, vs1, d1, ds1, p1, q1, rfl, rfl, rfl, h1, r1⟩ := trodAll_cons r0
  obtain ⟨rfl, rfl, rfl⟩ := trodAll_nil r1
  obtain rfl : args = #[v0, v1] := by cases args; simp_all
  obtain ⟨rfl, rfl⟩ := trodVars_none hV
  have lt0 : ∀ x ∈ p0, x.block < W.heap.size := by obtain ⟨m, hm⟩ := h0; exact DataW.trod_lt m _ _ _ hm
  obtain ⟨n0, f0, g0⟩ := open_src (hval 0 22 v0 rfl rfl) h0
  have lt1 : ∀ x ∈ p1, x.block < W.heap.size := by obtain ⟨m, hm⟩ := h1; exact DataW.trod_lt m _ _ _ hm
  obtain ⟨f1, g1⟩ := open_acts (hval 1 42 v1 rfl rfl) h1
  clear hA0 hval0
  simp only [List.append_nil] at hW'
  refine (law v0 n0 f0 v1 f1 W g0 g1).mono fun e W' ⟨he, bel⟩ => ?_
  subst he
  exact ⟨_, rfl, _, _, _, [], _, [], hW', trodAll_mk1 (shut_bool Try.underlying4 _), (trodAll_cons_mk (Below.trod laidOut (by kernel_rfl) (of_decide_eq_true (by kernel_rfl)) h0 bel lt0) (trodAll_cons_mk (Below.trod laidOut (by kernel_rfl) (of_decide_eq_true (by kernel_rfl)) h1 bel lt1) trodAll_mk0)), rfl, bel.frame _, fun h => by cases h⟩

theorem said : Rows.PastFirstSaid :=
  OpenClaim.holds_of_wide 8 Try.f8 rfl rfl rfl rfl rfl rfl rfl ⟨rfl, rfl, rfl, rfl, rfl⟩ rfl rfl rfl rfl rfl (by kernel_rfl) Try.func8 (by kernel_rfl)
    (of_decide_eq_true (by kernel_rfl)) (by unfold Func.isWrapper; first | (rw [if_pos (by decide +kernel)]; kernel_rfl) | (rw [if_neg (by decide +kernel)]; exact ⟨rfl, rfl⟩))
    (fun os started H enc _ => lifted os started H enc)
#print axioms said
end Go.Proofs.Ytibdhahkkejnjaa.PastFirst
