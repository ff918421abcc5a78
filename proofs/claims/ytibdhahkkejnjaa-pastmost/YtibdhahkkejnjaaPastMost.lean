/- PastMost is true of any byte: of more transactions than may be kept the first ones are forgotten, and just the others can be undone. -/
import Derived.Test.YtibdhahkkejnjaaArgs
import Derived.Test.YtibdhahkkejnjaaPsT
namespace Go.Proofs.Ytibdhahkkejnjaa.PastMost
open Go.ChangeShapes Go.WideShapes Go.ChangeAt Go.RowKit Go.Proofs.PlatenPiece
set_option linter.unusedVariables false
set_option maxRecDepth 100000

/-- Behind i edits. -/
def Inv (w : World) (B H T i : Nat) (wr : World) : Prop := ∃ O ov dv dn, HP B wr H T (List.replicate i 120) (2 * i) O ov dv (.slice none 0 0) [] dn [] ∧ dn.map (·.2) = trs i ∧ Below w.heap.size w wr
/-- Behind j Undos. -/
def Jnv (w : World) (B H T A j : Nat) (wr : World) : Prop := ∃ O ov dv uv dn ud, HP B wr H T (List.replicate (A - j) 120) (2 * A + 2 * j) O ov dv uv [] dn ud ∧ dn.map (·.2) = (trs A).take (1000 - j) ∧ ud.length = j ∧ Below w.heap.size w wr

set_option maxHeartbeats 4000000 in
theorem law (n : Nat) (w : World) (hn : n < 256) :
    Calls Try.prog 10 #[.int .u8 n] w fun e w' => e = .returned (.bool true) ∧ Below w.heap.size w w' := by
  obtain ⟨r, hr⟩ : ∃ r : Nat, (n : Int).tmod 4 = (r : Int) := ⟨n % 4, by rw [Int.tmod_eq_emod_of_nonneg (by omega)]; omega⟩
  have hr4 : r < 4 := by
    rw [Int.tmod_eq_emod_of_nonneg (by omega)] at hr
    omega
  obtain ⟨A, hA⟩ : ∃ A : Nat, (1000 : Int) + (r : Int) = (A : Int) := ⟨1000 + r, by omega⟩
  have hA1 : 1000 ≤ A ∧ A < 1004 := by omega
  have hAr : A = 1000 + r := by omega
  have HAr := hidden hAr
  clear hAr
  go_enter Try.func10, Try.ntmps10
  go_wp2_with fail
  refine (moves_any w).mono ?_
  rintro e w1 ⟨rfl, hb1⟩
  have Hb1 := hidden hb1
  clear hb1
  go_wp2_with fail
  refine (new_empty _ w1 (Or.inl ⟨rfl, rfl⟩)).mono ?_
  rintro e w2 ⟨rfl, hT, hg2⟩
  have hX := tx_empty hT hg2.size
  have C2 := hidden (past_new hX hg2.size)
  have Hb2 := hidden (Hb1.out.trans ((below_of_grown hg2).mono Hb1.out.size))
  have HBS := hidden Hb1.out.size
  clear hT hg2 hX Hb1
  go_wp2_with fail
  refine C2.out.mono ?_
  rintro e w3 ⟨rfl, h3, hg3⟩
  have HI : Hid (Inv w w1.heap.size w2.heap.size w1.heap.size 0 w3) := ⟨_, _, _, [], h3, rfl, Hb2.out.trans ((below_of_grown hg3).mono Hb2.out.size)⟩
  clear C2 h3 hg3 Hb2
  go_wp2_with fail
  go_loopw [4, 7] (fun ev iv wr => ∃ k : Nat, k ≤ A ∧ ev = .int .i64 0 ∧ iv = .int .i64 (k : Nat) ∧ Inv w w1.heap.size w2.heap.size w1.heap.size k wr) (fun _ iv _ => A - (intOf iv).toNat)
  case atStart => exact ⟨0, Nat.zero_le _, rfl, rfl, HI.out⟩
  case round =>
    obtain ⟨k, hk, rfl, rfl, hinv⟩ := hrel
    by_cases hlt : k < A
    · obtain ⟨O, ov, dv, dn, h4, hdn, hb4⟩ := hinv
      have hkz : (k : Int) < (A : Int) := by omega
      have hl4 : dn.length = min k 1000 := by rw [← trs_len, ← hdn, List.length_map]
      have C4 := hidden (do_yes h4 (by intro c hc; rw [List.eq_of_mem_replicate hc]; decide) (by omega) (by simp) (ex k) (ex_fits k) (by show (List.replicate k 120).length + 1 ≤ 65536 + 0; rw [List.length_replicate]; omega) (by intro hq; have := congrArg ByteArray.size hq; exact absurd this (by show ¬ (0 = 1); decide)))
      have HB4 := hidden hb4
      have H4 := hidden h4
      have HL4 := hidden hl4
      have HDN := hidden hdn
      have q3 : IntKind.i64.wrap ((k : Int) + 1) = ((k + 1 : Nat) : Int) := by push_cast; exact IntWalk.i64_in _ (by omega)
      clear h4 hb4 hl4 hdn
      go_wp2_with fail
      refine C4.out.mono ?_
      rintro e w5 ⟨rfl, O5, ov5, h5, hK5, _⟩
      rw [ex_app k (by omega)] at h5
      have C5 := hidden (close_step (e := ex k) h5 (by have := HL4.out; omega))
      have HB5 : Hid (Below w.heap.size w w5) := HB4.out.trans (hK5.below HB4.out.size (fun kk hkk => by have := (H4.out.own kk hkk).1; have := HBS.out; omega))
      have H5 := hidden h5
      clear C4 h5 hK5 HB4 H4
      go_wp2_with fail
      refine C5.out.mono ?_
      rintro e w6 ⟨⟨v6, rfl⟩, dv6, dn6, h6, hK6, hd6⟩
      have HI6 : Hid (Inv w w1.heap.size w2.heap.size w1.heap.size (k + 1) w6) := by
        refine ⟨O5, _, dv6, dn6, h6, ?_, HB5.out.trans (hK6.below HB5.out.size (fun kk hkk => by have := (H5.out.own kk hkk).1; have := HBS.out; omega))⟩
        rw [hd6, trs_succ, HDN.out, HL4.out]
        by_cases hq : k < 1000
        · rw [if_pos (by omega), if_pos hq]
        · rw [if_neg (by omega), if_neg hq]
      clear C5 h6 hK6 hd6 H5 HB5 HDN HL4
      go_wp2_with fail
      exact ⟨⟨k + 1, by omega, rfl, by push_cast; rfl, HI6.out⟩, by simp [intOf]; omega⟩
    · have hkz : ¬ ((k : Int) < (A : Int)) := by omega
      have hkA : k = A := by omega
      subst hkA
      obtain ⟨O, ov, dv, dn, h4, hdn, hb4⟩ := hinv
      have hl4 : dn.length = 1000 := by
        have : dn.length = (trs k).length := by rw [← hdn, List.length_map]
        rw [this, trs_len]; omega
      have C4 := Depth_any h4
      rw [hl4] at C4
      have HC4 := hidden C4
      have HJ : Hid (∀ w', wr.grownBy w' none → Jnv w w1.heap.size w2.heap.size w1.heap.size k 0 w') := fun w' hg => by
        refine ⟨O, ov, dv, _, dn, [], by simpa using h4.grown hg, ?_, rfl, hb4.trans ((below_of_grown hg).mono hb4.size)⟩
        rw [Nat.sub_zero, List.take_of_length_le (by rw [trs_len]; omega), hdn]
      clear C4 h4 hdn hb4 hl4
      go_wp2_with fail
      refine HC4.out.mono ?_
      rintro e w5 ⟨rfl, hg5⟩
      have HJ5 := hidden (HJ.out w5 hg5)
      clear HC4 HJ hg5
      go_wp2_with fail
      go_loopw [4, 10] (fun ev iv wr => ∃ j : Nat, j ≤ 1000 ∧ ev = .int .i64 0 ∧ iv = .int .i64 (j : Nat) ∧ Jnv w w1.heap.size w2.heap.size w1.heap.size k j wr) (fun _ iv _ => 1000 - (intOf iv).toNat)
      case atStart => exact ⟨0, Nat.zero_le _, rfl, rfl, HJ5.out⟩
      case round =>
        obtain ⟨j, hj, rfl, rfl, hjnv⟩ := hrel
        by_cases hlt2 : j < 1000
        · have hjz : (j : Int) < 1000 := by omega
          obtain ⟨O, ov, dv, uv, dn, ud, h6, hdn, hud, hb6⟩ := hjnv
          rw [show 1000 - j = (1000 - j - 1) + 1 by omega] at hdn
          obtain ⟨d0, v, rfl, hd0⟩ := last_of hdn (trs_at k (1000 - j - 1) (by omega) (by omega))
          have hld : d0.length ≤ 1000 := by
            have : d0.length = ((trs k).take (1000 - j - 1)).length := by rw [← hd0, List.length_map]
            rw [this, List.length_take]; omega
          rw [show k - 1000 + (1000 - j - 1) = k - j - 1 by omega] at h6
          rw [show k - 1000 + (1000 - j - 1) = k - j - 1 by omega] at hdn
          rw [show k - j = (k - j - 1) + 1 by omega] at h6
          have C6 := hidden (undo_step h6 (by omega) hld (by omega) (by omega))
          have HB6 := hidden hb6
          have H6 := hidden h6
          have Hd0 := hidden hd0
          have Hud := hidden hud
          have q4 : IntKind.i64.wrap ((j : Int) + 1) = ((j + 1 : Nat) : Int) := by push_cast; exact IntWalk.i64_in _ (by omega)
          clear h6 hb6 hdn hd0 hud hld
          go_wp2_with fail
          refine C6.out.mono ?_
          rintro e w7 ⟨vo, O7, ov7, dv7, uv7, rfl, h7, hK7⟩
          have HJ7 : Hid (Jnv w w1.heap.size w2.heap.size w1.heap.size k (j + 1) w7) := by
            refine ⟨O7, ov7, dv7, uv7, d0, ud ++ [(v, [ex (k - j - 1)])], ?_, ?_, ?_, HB6.out.trans (hK7.below HB6.out.size (fun kk hkk => by have := (H6.out.own kk hkk).1; have := HBS.out; omega))⟩
            · rw [show k - (j + 1) = k - j - 1 by omega, show 2 * k + 2 * (j + 1) = 2 * k + 2 * j + 2 by omega]
              exact h7
            · rw [Hd0.out, show 1000 - (j + 1) = 1000 - j - 1 by omega]
            · rw [List.length_append, List.length_singleton, Hud.out]
          clear C6 h7 hK7 H6 HB6 Hd0 Hud
          go_wp2_with fail
          exact ⟨⟨j + 1, by omega, rfl, by push_cast; rfl, HJ7.out⟩, by simp [intOf]; omega⟩
        · have hjz : ¬ ((j : Int) < 1000) := by omega
          obtain rfl : j = 1000 := by omega
          obtain ⟨O, ov, dv, uv, dn, ud, h6, hdn, hud, hb6⟩ := hjnv
          rw [Nat.sub_self, List.take_zero, List.map_eq_nil_iff] at hdn
          subst hdn
          have C6 := hidden (Undo_none h6)
          have C7 := tx_len h6.tx
          rw [List.length_replicate] at C7
          have HC7 := hidden C7
          have HB6 := hidden hb6
          have hw9 : IntKind.i64.wrap ((k : Int) - 1000) = ((k - 1000 : Nat) : Int) := by rw [show ((k - 1000 : Nat) : Int) = (k : Int) - 1000 by omega]; exact IntWalk.i64_in _ (by omega)
          clear h6 hb6 C7 hud
          go_wp2_with fail
          refine C6.out.mono ?_
          rintro e w8 ⟨rfl, rfl⟩
          clear C6
          go_wp2_with fail
          refine HC7.out.mono ?_
          rintro e w8 ⟨rfl, rfl⟩
          go_wp2
          go_ret
          exact ⟨rfl, HB6.out⟩

theorem u8_lt {x : Int} (h : (Lit.int .u8 x).wf = true) : ∃ n : Nat, x = n ∧ n < 256 := by
  have b : 0 ≤ x ∧ x ≤ 255 := by simpa [Lit.wf, IntKind.min, IntKind.max, IntKind.signed, IntKind.bits] using h
  exact ⟨x.toNat, by omega, by omega⟩

set_option maxRecDepth 100000 in
theorem lifted (os : Os) (started : os.Started) (H : Type) (enc : TypeId × Value → H) :
    ReturnsInHanded {} Try.checked os 10 .any (Rows.pastMostSpec.pre6 enc Try.prog Try.f10 Rows.pastMostRow.domain false) (Rows.pastMostSpec.post enc Try.prog Try.f10 false true false false) := by
  refine returnsInHanded_of_change (C := Try.checked) own started (by kernel_rfl) Try.func10
    (ChangeSpec.witness6 (enc := enc) (C := Try.checked) false ⟨#[], #[.int .u8 0], []⟩ 8 (by kernel_rfl) (by kernel_rfl) (by kernel_rfl) (by kernel_rfl)) ?_
  intro W base args ds gs before hval0 hW _ _
  have hval : ∀ (j : Nat) t v, Try.f10.params[j]? = some t → args[j]? = some v → Value.okWide Try.prog W .any base t v := hval0
  have hW' := hW
  obtain ⟨p, q, hA0, hV, rfl, _, _⟩ := hW
  have hA : DataW.TrodAll enc Try.prog W 0 (fun _ => true) true Try.f10.params.toList args.toList ds p := hA0
  rw [Try.params10] at hA hval
  obtain ⟨v0, vs0, d0, ds0, p0, q0, hargs, rfl, rfl, h0, r0⟩ := trodAll_cons hA
  obtain ⟨rfl, rfl, rfl⟩ := trodAll_nil r0
  obtain rfl : args = #[v0] := by cases args; simp_all
  obtain ⟨rfl, rfl⟩ := trodVars_none hV
  obtain ⟨x0, rfl, rfl, rfl, w0⟩ := open_int Try.underlying5 (hval 0 5 v0 rfl rfl) h0
  obtain ⟨n0, rfl, b0⟩ := u8_lt w0
  clear hA0 hval0
  simp only [List.append_nil] at hW'
  refine (law n0 W b0).mono fun e W' ⟨he, bel⟩ => ?_
  subst he
  exact ⟨_, rfl, _, _, _, [], _, [], hW', trodAll_mk1 (shut_bool Try.underlying4 _), (trodAll_cons_mk (shut_int Try.underlying5 w0) trodAll_mk0), rfl, bel.frame _, fun h => by cases h⟩

theorem said : Rows.PastMostSaid :=
  OpenClaim.holds_of_wide 10 Try.f10 rfl rfl rfl rfl rfl rfl rfl ⟨rfl, rfl, rfl, rfl, rfl⟩ rfl rfl rfl rfl rfl (by kernel_rfl) Try.func10 (by kernel_rfl)
    (of_decide_eq_true (by kernel_rfl)) (by unfold Func.isWrapper; first | (rw [if_pos (by decide +kernel)]; kernel_rfl) | (rw [if_neg (by decide +kernel)]; exact ⟨rfl, rfl⟩))
    (fun os started H enc _ => lifted os started H enc)
#print axioms said
end Go.Proofs.Ytibdhahkkejnjaa.PastMost
