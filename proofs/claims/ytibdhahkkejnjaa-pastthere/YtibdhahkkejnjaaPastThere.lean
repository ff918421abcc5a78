/- PastThere is true of any text, any acts and any byte: so many transactions undone, and as many done again, and the text is as it was. -/
import Derived.Test.YtibdhahkkejnjaaPuG
namespace Go.Proofs.Ytibdhahkkejnjaa.PastThere
open Go.ChangeShapes Go.WideShapes Go.ChangeAt Go.RowKit Go.Proofs.PlatenPiece
set_option linter.unusedVariables false
set_option maxRecDepth 100000

theorem sz_one (l : List Nat) (d0 g : List (List Ed)) (t : List Ed) : (⟨l, [], d0 ++ [t], g⟩ : Hs).sz = t.length + d0.flatten.length + g.flatten.length := by
  unfold Hs.sz
  simp only [List.flatten_append, List.flatten_cons, List.flatten_nil, List.append_nil, List.length_append, List.length_nil]
  omega
theorem sz_two (l : List Nat) (d0 g : List (List Ed)) (t : List Ed) : (⟨l, [], d0, g ++ [t]⟩ : Hs).sz = t.length + d0.flatten.length + g.flatten.length := by
  unfold Hs.sz
  simp only [List.flatten_append, List.flatten_cons, List.flatten_nil, List.append_nil, List.length_append, List.length_nil]
  omega
/-- The state in which the first j transactions are done. -/
def St (s : Hs) (j : Nat) (s' : Hs) : Prop := s'.now = [] ∧ s'.done = s.done.take j ∧ s'.gone = s.gone ++ (s.done.drop j).reverse
theorem st_full {s : Hs} (h : s.now = []) : St s s.done.length s := ⟨h, by simp, by simp⟩
theorem st_text {l0 : List Nat} {s s' : Hs} (hi : Inv l0 s) (hn : s.now = []) (hi' : Inv l0 s') (h : St s s.done.length s') : s'.l = s.l ∧ s'.gone = s.gone := by
  obtain ⟨h1, h2, h3⟩ := h
  have r1 := hi.run.fold
  have r2 := hi'.run.fold
  rw [List.take_length] at h2
  rw [h1, h2] at r2
  rw [hn] at r1
  refine ⟨by rw [← r1, ← r2], ?_⟩
  rw [h3]; simp
theorem st_undo {s s' : Hs} {j : Nat} (h : St s (j + 1) s') (hj : j < s.done.length) : ∃ d0 t, s' = ⟨s'.l, [], d0 ++ [t], s'.gone⟩ ∧ ∀ lz, St s j ⟨lz, [], d0, s'.gone ++ [t]⟩ := by
  obtain ⟨h1, h2, h3⟩ := h
  refine ⟨s.done.take j, s.done[j], ?_, fun lz => ⟨rfl, rfl, ?_⟩⟩
  · have e : s.done.take (j + 1) = s.done.take j ++ [s.done[j]] := by rw [List.take_add_one, List.getElem?_eq_getElem hj]; rfl
    rw [e] at h2
    cases hq : s' with
    | mk a b c d => rw [hq] at h1 h2; dsimp only at h1 h2; rw [h1, h2]
  · show s'.gone ++ [s.done[j]] = _
    rw [h3, List.drop_eq_getElem_cons hj, List.reverse_cons, List.append_assoc]
theorem st_redo {s s' : Hs} {j : Nat} (h : St s j s') (hj : j < s.done.length) : ∃ g0 t, s' = ⟨s'.l, [], s'.done, g0 ++ [t]⟩ ∧ ∀ lz, St s (j + 1) ⟨lz, [], s'.done ++ [t], g0⟩ := by
  obtain ⟨h1, h2, h3⟩ := h
  refine ⟨s.gone ++ (s.done.drop (j + 1)).reverse, s.done[j], ?_, fun lz => ⟨rfl, ?_, rfl⟩⟩
  · rw [List.drop_eq_getElem_cons hj, List.reverse_cons, ← List.append_assoc] at h3
    cases hq : s' with
    | mk a b c d => rw [hq] at h1 h3; dsimp only at h1 h3; rw [h1, h3]
  · show s'.done ++ [s.done[j]] = _
    rw [h2, List.take_add_one, List.getElem?_eq_getElem hj]; rfl
theorem st_len {s s' : Hs} {j : Nat} (h : St s j s') (hj : j ≤ s.done.length) : s'.done.length = j ∧ s'.gone.length = s.gone.length + (s.done.length - j) := by
  obtain ⟨h1, h2, h3⟩ := h
  rw [h2, h3, List.length_take, List.length_append, List.length_reverse, List.length_drop]
  omega
/-- The text as it was, in a block that nobody owns. -/
def Was (b : Nat) (l : List Nat) (X : Nat → Prop) (w : World) : Prop := w.heap[b]? = some (.cells (bytesV l).toArray 5 (0, 0)) ∧ ¬ X b
theorem Was.kept {b : Nat} {l : List Nat} {X X' : Nat → Prop} {w w' : World} (h : Was b l X w) (hk : Kept X w w') (hx : ∀ k, k < w.heap.size → X' k → X k) : Was b l X' w' :=
  ⟨(hk.block b (Array.getElem?_eq_some_iff.1 h.1).1 h.2).trans h.1, fun q => h.2 (hx b (Array.getElem?_eq_some_iff.1 h.1).1 q)⟩
theorem Was.grown {b : Nat} {l : List Nat} {X : Nat → Prop} {w w' : World} (h : Was b l X w) (hg : w.grownBy w' none) : Was b l X w' := ⟨(hg.block b (Array.getElem?_eq_some_iff.1 h.1).1 (by simp)).trans h.1, h.2⟩

set_option maxHeartbeats 4000000 in
theorem law (pv : Value) (n : Nat) (l0 : List Nat) (v : Value) (xs : List AC) (z : Nat) (w : World) (hs : IsSrc w pv n l0) (hv : IsActs w v xs) (hz : z < 256) :
    Calls Try.prog 7 #[pv, v, .int .u8 z] w fun e w' => e = .returned (.bool true) ∧ Below w.heap.size w w' := by
  obtain ⟨hlt, hln, hn63, hsrc⟩ := hs
  obtain ⟨pa, pc, rfl⟩ : ∃ pa pc, pv = .slice pa n pc := by
    rcases hsrc with ⟨rfl, rfl⟩ | ⟨ad, cap, rfl, _⟩
    · exact ⟨_, _, by rw [← hln]; rfl⟩
    · exact ⟨_, _, by rw [hln]⟩
  obtain ⟨m, hm⟩ : ∃ m, xs.length = m := ⟨_, rfl⟩
  obtain ⟨va, cap, rfl⟩ : ∃ va cap, v = .slice va m cap := by
    obtain ⟨_, va, cap, rfl, _⟩ := hv
    exact ⟨va, cap, by rw [hm]⟩
  have HSrc := hidden hsrc
  have HA := hidden hv
  have Hlt := hidden hlt
  have Hln := hidden hln
  have Hm := hidden hm
  clear hsrc hv hlt hln hm
  go_enter Try.func7, Try.ntmps7
  go_wp2_with fail
  refine (moves_any w).mono ?_
  rintro q w1 ⟨rfl, hb1⟩
  have HB1 := hidden hb1
  clear hb1
  go_wp2_with fail
  refine (few_any pa n pc _ xs w1 (HA.out.below HB1.out)).mono ?_
  rintro q w2 ⟨⟨r, rfl, hr⟩, rfl⟩
  have Hr := hidden hr
  clear hr
  cases r with
  | false =>
    go_wp2_with fail
    refine (moves_any w2).mono ?_
    rintro q w3 ⟨rfl, hb3⟩
    have HB3 := hidden (HB1.out.trans (hb3.mono HB1.out.size))
    clear hb3
    go_wp2
    go_ret
    exact ⟨rfl, HB3.out⟩
  | true =>
    obtain ⟨hn60, hm24, hall⟩ := Hr.out rfl
    have Hl : Hid (l0.length ≤ 60) := by unfold Hid; rw [Hln.out]; exact hn60
    have C3 := hidden (begin_any _ _ l0 xs w2 (HSrc.out.below HB1.out) Hl.out Hlt.out (HA.out.below HB1.out) hm24 hall)
    clear hall Hr hm24
    go_wp2_with fail
    refine C3.out.mono ?_
    rintro q w3 ⟨T, H, M, s, X, R, rfl, hp, hi, hsz, hnow⟩
    have Hp := hidden hp
    have Hi := hidden hi
    have Hnow := hidden hnow
    have hmany := hi.many
    clear C3 hp hi hnow
    go_wp2_with fail
    refine (hs_bytes Hp.out.hs (by omega)).mono ?_
    rintro q w4 ⟨rfl, hh4, hg4⟩
    have HW4 : Hid (Was w3.heap.size s.l X w4) := ⟨hh4, fun q => by have := (Hp.out.hs.own _ q).2; omega⟩
    have Hp4 := hidden (Hp.out.grown hg4)
    clear hh4 hg4 Hp
    obtain ⟨b, hb⟩ : ∃ b, w3.heap.size = b := ⟨_, rfl⟩
    rw [hb] at HW4 ⊢
    clear hb
    go_wp2_with fail
    refine (hs_depth Hp4.out.hs).mono ?_
    rintro q w5 ⟨rfl, hg5⟩
    have Hp5 := hidden (Hp4.out.grown hg5)
    have HW5 := hidden (HW4.out.grown hg5)
    clear hg5 Hp4 HW4
    obtain ⟨D, hD⟩ : ∃ D, s.done.length = D := ⟨_, rfl⟩
    obtain ⟨G, hG⟩ : ∃ G, s.gone.length = G := ⟨_, rfl⟩
    have HD := hidden hD
    have HG := hidden hG
    rw [hD, hG] at hmany ⊢
    obtain ⟨K, hK, hKD⟩ := tmod_nat z D
    have HKD := hidden hKD
    have q1 : IntKind.i64.wrap ((D : Int) + 1) = (D : Int) + 1 := IntWalk.i64_in _ (by omega)
    clear hD hG
    go_wp2_with fail
    go_loopw [15] (fun i wr => ∃ (k : Nat) (s' : Hs) (X' : Nat → Prop), k ≤ K ∧ i = .int .i64 (k : Nat) ∧ PR w2.heap.size w2 wr T H M s' s (1200 + 48 * k) X' R ∧ Inv l0 s' ∧ s'.sz ≤ 24 ∧ St s (D - k) s' ∧ Was b s.l X' wr) (fun i _ => K - (intOf i).toNat)
    case atStart => exact ⟨0, s, X, Nat.zero_le _, rfl, Hp5.out, Hi.out, hsz, by rw [← HD.out]; exact st_full Hnow.out, HW5.out⟩
    case round =>
      obtain ⟨k, s', X', hk, rfl, hp, hi, hz', hst, hw⟩ := hrel
      by_cases hlt : k < K
      · have hkz : (k : Int) < (K : Int) := by omega
        obtain ⟨d0, t, hs', hst'⟩ := st_undo (s := s) (s' := s') (j := D - (k + 1)) (by rw [show D - (k + 1) + 1 = D - k by omega]; exact hst) (by rw [HD.out]; omega)
        have hic := hi
        rw [hs'] at hic
        obtain ⟨lz, hr, hinv⟩ := hic.undo
        have hz2 : t.length + d0.flatten.length + s'.gone.flatten.length ≤ 24 := by
          have : s'.sz = (⟨s'.l, [], d0 ++ [t], s'.gone⟩ : Hs).sz := by rw [← hs']
          rw [this, sz_one] at hz'
          exact hz'
        have hmany' := hi.many
        have hdl : d0.length ≤ 24 := by have := hic.many; rw [sz_one] at this; simp only [List.length_append, List.length_singleton] at this; omega
        have hdt : s'.close.done = d0 ++ [t] := by rw [close_idem hst.1, hs']
        have C5 := hidden (hs_undo hp.hs (by omega) (by omega) hdt (by omega) (by omega) (by omega) hr)
        have Hp6 := hidden hp
        have Hinv := hidden hinv
        have Hst := hidden (hst' lz)
        have Hw := hidden hw
        clear hp hi hs' hic hr hinv hmany' hst hst' hw hdt
        go_wp2_with fail
        refine C5.out.mono ?_
        rintro q w6 ⟨vo, rfl, hrow, hst⟩
        obtain ⟨X6, hp6, hk6, hx6⟩ := Hp6.out.p hst
        have Hp7 := hidden hp6
        have Hw7 := hidden (Hw.out.kept hk6 hx6)
        obtain ⟨oa, oc, rfl⟩ := row_slice hrow
        clear hrow hst hp6 C5 hk6 hx6 Hw Hp6
        go_wp2
        go_roundw
        case rel => exact ⟨k + 1, _, X6, by omega, by go_num, Hp7.out.more (by omega), Hinv.out, by rw [sz_two]; exact hz2, Hst.out, Hw7.out⟩
        case measure => simp [intOf]; omega
      · have hkz : ¬ ((k : Int) < (K : Int)) := by omega
        have hkK : k = K := by omega
        subst hkK
        have hlen := st_len hst (by rw [HD.out]; omega)
        rw [HD.out, HG.out] at hlen
        have C6 := hs_depth hp.hs
        rw [hlen.1, hlen.2] at C6
        have HC6 := hidden C6
        have Hp6 := hidden hp
        have Hi6 := hidden hi
        have Hst6 := hidden hst
        have Hw6 := hidden hw
        have e1 : ((D - k : Nat) : Int) = (D : Int) - (k : Int) := by omega
        have e2 : ((G + (D - (D - k)) : Nat) : Int) = (G : Int) + (k : Int) := by omega
        have q2 : IntKind.i64.wrap ((D : Int) - (k : Int)) = (D : Int) - (k : Int) := IntWalk.i64_in _ (by omega)
        have q3 : IntKind.i64.wrap ((G : Int) + (k : Int)) = (G : Int) + (k : Int) := IntWalk.i64_in _ (by omega)
        rw [e1, e2] at HC6
        clear hp hi hst hw C6 hlen
        go_wp2_with fail
        refine HC6.out.mono ?_
        rintro q w6 ⟨rfl, hg6⟩
        have Hp7 := hidden (Hp6.out.grown hg6)
        have Hw7 := hidden (Hw6.out.grown hg6)
        clear hg6 HC6 Hp6 Hw6
        go_wp2_with fail
        go_loopw [20] (fun i wr => ∃ (j : Nat) (s' : Hs) (X' : Nat → Prop), j ≤ k ∧ i = .int .i64 (j : Nat) ∧ PR w2.heap.size w2 wr T H M s' s (2400 + 48 * j) X' R ∧ Inv l0 s' ∧ s'.sz ≤ 24 ∧ St s (D - k + j) s' ∧ Was b s.l X' wr) (fun i _ => k - (intOf i).toNat)
        case atStart => exact ⟨0, s', X', Nat.zero_le _, rfl, Hp7.out.more (by omega), Hi6.out, hz', Hst6.out, Hw7.out⟩
        case round =>
          rename_i wq
          obtain ⟨j, s2, X2, hj, rfl, hp, hi, hz2, hst, hw⟩ := hrel
          by_cases hlt2 : j < k
          · have hkz2 : (j : Int) < (k : Int) := by omega
            obtain ⟨g0, t, hs', hst'⟩ := st_redo hst (by rw [HD.out]; omega)
            have hic := hi
            rw [hs'] at hic
            obtain ⟨lz, hr, hinv⟩ := hic.redo
            have hz3 : t.length + s2.done.flatten.length + g0.flatten.length ≤ 24 := by
              have : s2.sz = (⟨s2.l, [], s2.done, g0 ++ [t]⟩ : Hs).sz := by rw [← hs']
              rw [this, sz_two] at hz2
              exact hz2
            have hmany' := hi.many
            have hgl : g0.length ≤ 24 := by have := hic.many; rw [sz_two] at this; simp only [List.length_append, List.length_singleton] at this; omega
            have hgt : s2.gone = g0 ++ [t] := by rw [hs']
            have C8 := hidden (hs_redo hp.hs hst.1 hgt (by omega) (by omega) (by omega) hr)
            have Hp8 := hidden hp
            have Hinv := hidden hinv
            have Hst := hidden (hst' lz)
            have Hw := hidden hw
            clear hp hi hs' hic hr hinv hmany' hst hst' hw hgt
            go_wp2_with fail
            refine C8.out.mono ?_
            rintro q w8 ⟨vo, rfl, hrow, hst⟩
            obtain ⟨X8, hp8, hk8, hx8⟩ := Hp8.out.p hst
            have Hp9 := hidden hp8
            have Hw9 := hidden (Hw.out.kept hk8 hx8)
            obtain ⟨oa, oc, rfl⟩ := row_slice hrow
            clear hrow hst hp8 C8 hk8 hx8 Hw Hp8
            go_wp2
            go_roundw
            case rel => exact ⟨j + 1, _, X8, by omega, by go_num, Hp9.out.more (by omega), Hinv.out, by rw [sz_one]; exact hz3, Hst.out, Hw9.out⟩
            case measure => simp [intOf]; omega
          · have hkz2 : ¬ ((j : Int) < (k : Int)) := by omega
            have hjk : D - k + j = D := by omega
            rw [hjk, ← HD.out] at hst
            have htx := st_text Hi.out Hnow.out hi hst
            have hdl : s2.done.length = D := by have := hst.2.1; rw [List.take_length] at this; rw [this, HD.out]
            have C8 := hs_depth hp.hs
            rw [hdl, htx.2, HG.out] at C8
            have HC8 := hidden C8
            have Hp8 := hidden hp
            have Hw8 := hidden hw
            have Htx := hidden htx.1
            clear hp hi hst hw C8 htx hdl
            go_wp2_with fail
            refine HC8.out.mono ?_
            rintro q w8 ⟨rfl, hg8⟩
            have Hp9 := hidden (Hp8.out.grown hg8)
            have Hw9 := hidden (Hw8.out.grown hg8)
            clear hg8 HC8 Hp8 Hw8
            go_wp2_with fail
            have C9 := hs_bytes Hp9.out.hs (by omega)
            rw [Htx.out] at C9
            have HC9 := hidden C9
            clear C9
            refine HC9.out.mono ?_
            rintro q w9 ⟨rfl, hh9, hg9⟩
            have Hp10 := hidden (Hp9.out.grown hg9)
            have Hw10 := hidden (Hw9.out.grown hg9)
            have HH9 := hidden hh9
            clear HC9 hh9 hg9 Hp9 Hw9
            go_wp2_with fail
            refine (same_any _ _ s.l _ Hi.out.bytes (by have := Hi.out.len; omega) (row_block HH9.out) (row_block Hw10.out.1)).mono ?_
            rintro q w10 ⟨rfl, hb10⟩
            have Hp11 := hidden (Hp10.out.grown (grown_of_below hb10))
            have Hb := hidden (HB1.out.trans (Hp11.out.bl.mono HB1.out.size))
            clear hb10 Hp10 HH9 Hp11 Hw10
            go_wp2
            go_ret
            exact ⟨rfl, Hb.out⟩

set_option maxRecDepth 100000 in
theorem lifted (os : Os) (started : os.Started) (H : Type) (enc : TypeId × Value → H) :
    ReturnsInHanded {} Try.checked os 7 .any (Rows.pastThereSpec.pre6 enc Try.prog Try.f7 Rows.pastThereRow.domain false) (Rows.pastThereSpec.post enc Try.prog Try.f7 false true false false) := by
  refine returnsInHanded_of_change (C := Try.checked) own started (by kernel_rfl) Try.func7
    (ChangeSpec.witness6 (enc := enc) (C := Try.checked) false ⟨#[], #[.slice none 0 0, .slice none 0 0, .int .u8 0], []⟩ 8 (by kernel_rfl) (by kernel_rfl) (by kernel_rfl) (by kernel_rfl)) ?_
  intro W base args ds gs before hval0 hW _ _
  have hval : ∀ (j : Nat) t v, Try.f7.params[j]? = some t → args[j]? = some v → Value.okWide Try.prog W .any base t v := hval0
  have hW' := hW
  obtain ⟨p, q, hA0, hV, rfl, _, _⟩ := hW
  have hA : DataW.TrodAll enc Try.prog W 0 (fun _ => true) true Try.f7.params.toList args.toList ds p := hA0
  rw [Try.params7] at hA hval
  obtain ⟨v0, vs0, d0, ds0, p0, q0, hargs, rfl, rfl, h0, r0⟩ := trodAll_cons hA
  obtain ⟨v1, vs1, d1, ds1, p1, q1, rfl, rfl, rfl, h1, r1⟩ := trodAll_cons r0
  obtain ⟨v2, vs2, d2, ds2, p2, q2, rfl, rfl, rfl, h2, r2⟩ := trodAll_cons r1
  obtain ⟨rfl, rfl, rfl⟩ := trodAll_nil r2
  obtain rfl : args = #[v0, v1, v2] := by cases args; simp_all
  obtain ⟨rfl, rfl⟩ := trodVars_none hV
  have lt0 : ∀ x ∈ p0, x.block < W.heap.size := by obtain ⟨m, hm⟩ := h0; exact DataW.trod_lt m _ _ _ hm
  obtain ⟨n0, f0, g0⟩ := open_src (hval 0 22 v0 rfl rfl) h0
  have lt1 : ∀ x ∈ p1, x.block < W.heap.size := by obtain ⟨m, hm⟩ := h1; exact DataW.trod_lt m _ _ _ hm
  obtain ⟨f1, g1⟩ := open_acts (hval 1 42 v1 rfl rfl) h1
  obtain ⟨x2, rfl, rfl, rfl, w2⟩ := open_int Try.underlying5 (hval 2 5 v2 rfl rfl) h2
  have b2 : 0 ≤ x2 ∧ x2 ≤ 255 := by simpa [Lit.wf, IntKind.min, IntKind.max, IntKind.signed, IntKind.bits] using w2
  obtain ⟨c2, rfl⟩ := Int.eq_ofNat_of_zero_le b2.1
  clear hA0 hval0
  simp only [List.append_nil] at hW'
  refine (law v0 n0 f0 v1 f1 c2 W g0 g1 (by omega)).mono fun e W' ⟨he, bel⟩ => ?_
  subst he
  exact ⟨_, rfl, _, _, _, [], _, [], hW', trodAll_mk1 (shut_bool Try.underlying4 _), (trodAll_cons_mk (Below.trod laidOut (by kernel_rfl) (of_decide_eq_true (by kernel_rfl)) h0 bel lt0) (trodAll_cons_mk (Below.trod laidOut (by kernel_rfl) (of_decide_eq_true (by kernel_rfl)) h1 bel lt1) (trodAll_cons_mk (shut_int Try.underlying5 w2) trodAll_mk0))), rfl, bel.frame _, fun h => by cases h⟩

theorem said : Rows.PastThereSaid :=
  OpenClaim.holds_of_wide 7 Try.f7 rfl rfl rfl rfl rfl rfl rfl ⟨rfl, rfl, rfl, rfl, rfl⟩ rfl rfl rfl rfl rfl (by kernel_rfl) Try.func7 (by kernel_rfl)
    (of_decide_eq_true (by kernel_rfl)) (by unfold Func.isWrapper; first | (rw [if_pos (by decide +kernel)]; kernel_rfl) | (rw [if_neg (by decide +kernel)]; exact ⟨rfl, rfl⟩))
    (fun os started H enc _ => lifted os started H enc)
#print axioms said
end Go.Proofs.Ytibdhahkkejnjaa.PastThere
