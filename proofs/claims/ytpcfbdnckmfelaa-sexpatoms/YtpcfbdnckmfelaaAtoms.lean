/- An atom goes as far as its bytes do: any of them. -/
import Derived.Test.YtpcfbdnckmfelaaSl
namespace Go.Proofs.Ytpcfbdnckmfelaa.Atoms
open Go.ChangeShapes Go.WideShapes Go.ChangeAt Go.RowKit Go.Proofs.PlatenSexp
set_option linter.unusedVariables false
set_option maxRecDepth 100000

/-- What of the first k bytes of f may be in an atom, behind an a. -/
def AL (f : Nat → Nat) (k : Nat) : List Nat := 97 :: ((List.range k).map f).filter isP
theorem AL_yes {f : Nat → Nat} {k : Nat} (h : isP (f k) = true) : AL f (k + 1) = AL f k ++ [f k] := by
  simp [AL, List.range_succ, h]
theorem AL_no {f : Nat → Nat} {k : Nat} (h : isP (f k) = false) : AL f (k + 1) = AL f k := by
  simp [AL, List.range_succ, h]
theorem AL_len (f : Nat → Nat) (k : Nat) : (AL f k).length ≤ k + 1 := by
  have := List.length_filter_le isP ((List.range k).map f)
  simp at this
  simp [AL]; omega
theorem ans_AL (f : Nat → Nat) (k : Nat) : ans (fOf (AL f k)) (AL f k).length = ([(5, 0, (AL f k).length)], 0, 0) := by
  have := ans_atom (((List.range k).map f).filter isP) (fun c hc => (List.mem_filter.1 hc).2)
  rw [show (AL f k).length = (((List.range k).map f).filter isP).length + 1 from rfl]
  exact this
theorem AL_pos (f : Nat → Nat) (k : Nat) : 0 < (AL f k).length := by simp [AL]
theorem AL_lt (f : Nat → Nat) (hf : ∀ j, f j < 256) (k : Nat) : ∀ c ∈ AL f k, c < 256 := by
  intro c hc
  simp only [AL, List.mem_cons, List.mem_filter, List.mem_map] at hc
  rcases hc with rfl | ⟨⟨j, _, rfl⟩, _⟩
  · decide
  · exact hf j
set_option maxHeartbeats 4000000 in
theorem long (v : Value) (n : Nat) (f : Nat → Nat) (w : World) (h : IsArg w v n f) (hn : 300 < n) :
    Calls Try.prog 8 #[v] w fun e w' => e = .returned (.bool true) ∧ Below w.heap.size w w' := by
  obtain ⟨hf, hm, a, cap, rfl, _⟩ := h
  have hlz : (300 : Int) < (n : Int) := by omega
  clear hn
  go_enter Try.func8, Try.ntmps8
  go_wp2_with fail
  refine (lists_any w).mono ?_
  rintro e w1 ⟨rfl, hb1⟩
  have B1 := hidden hb1
  clear hb1
  go_wp2_with fail
  refine (lists_any w1).mono ?_
  rintro e w2 ⟨rfl, hb2⟩
  have B2 := hidden (B1.out.trans (hb2.mono B1.out.size))
  clear hb2
  go_wp2_with fail
  go_ret
  exact ⟨rfl, B2.out⟩
set_option maxHeartbeats 8000000 in
theorem short (v : Value) (n : Nat) (f : Nat → Nat) (w : World) (h : IsArg w v n f) (hn : n ≤ 300) :
    Calls Try.prog 8 #[v] w fun e w' => e = .returned (.bool true) ∧ Below w.heap.size w w' := by
  obtain ⟨hf, hm, hr⟩ := h
  have HR := hidden hr
  obtain ⟨a, cap, rfl, _⟩ := hr
  have hlz : ¬ ((300 : Int) < (n : Int)) := by omega
  have Hf := hidden hf
  have Hn := hidden hn
  obtain ⟨i0, hi, hz0, hz1, hz2⟩ := info_parts info5
  clear hn hf
  go_enter Try.func8, Try.ntmps8
  go_wp2_with fail
  refine (lists_any w).mono ?_
  rintro e w1 ⟨rfl, hb1⟩
  have B1 := hidden hb1
  have HR1 := hidden (HR.out.below hb1)
  clear hb1
  go_wp2_with fail
  go_loopw [3, 4] (fun p i wr => ∃ k : Nat, k ≤ n ∧ i = .int .i64 (k : Nat) ∧ wr.ownsRow w1.heap.size 5 1 p (AL f k).length (rowL (AL f k)) ∧ Below w1.heap.size w1 wr) (fun _ i _ => n - (intOf i).toNat)
  case atStart => exact ⟨0, Nat.zero_le _, rfl, owns_new w1 _ [97] [.int .u8 97] rfl (Nat.le_refl _) (by decide), (Below.refl _ _).alloc (Nat.le_refl _) _⟩
  case round =>
    obtain ⟨k, hk, rfl, hown, hnx⟩ := hrel
    have hql := AL_len f k
    by_cases hlt : k < n
    · have hlz2 : (k : Int) < (n : Int) := by omega
      obtain ⟨a', cap', hva, hrow⟩ := HR1.out.below hnx
      injection hva with e1 e2 e3
      subst e1 e3
      obtain ⟨b, off, rfl, hcap, hc⟩ := hrow (by omega)
      have g0 := hc k hlt
      have g1 := Hf.out k
      have hkb : (AL f k).length ≤ 301 := by have := Hn.out; omega
      have Hc3 := hidden (c3_of (show (AL f k).length ≤ 5000 by omega))
      have hsz := hnx.size
      have Hnx := hidden hnx
      have hP : isP (f k) = (decide (32 < f k) && !(decide (f k = 40) || decide (f k = 41) || decide (f k = 34) || decide (f k = 39) || decide (f k = 96) || decide (f k = 44) || decide (f k = 59) || decide (f k = 127))) := rfl
      clear hc hrow e2 hnx hql
      cases hok : isP (f k) with
      | true =>
        have Hr : Hid (rowL (AL f (k + 1)) = rowL (AL f k) ++ [.int .u8 (f k : Nat)] ∧ (AL f (k + 1)).length = (AL f k).length + 1) := by
          unfold Hid; rw [AL_yes hok, rowL_app]; exact ⟨rfl, by simp⟩
        rw [hok] at hP
        simp at hP
        have z32 : (32 : Int) < ((f k : Nat) : Int) := by omega
        have z127 : (((f k : Nat) : Int) != 127) = true := by rw [bne_iff_ne]; omega
        have z40 : (((f k : Nat) : Int) != 40) = true := by rw [bne_iff_ne]; omega
        have z41 : (((f k : Nat) : Int) != 41) = true := by rw [bne_iff_ne]; omega
        have z34 : (((f k : Nat) : Int) != 34) = true := by rw [bne_iff_ne]; omega
        have z39 : (((f k : Nat) : Int) != 39) = true := by rw [bne_iff_ne]; omega
        have z96 : (((f k : Nat) : Int) != 96) = true := by rw [bne_iff_ne]; omega
        have z44 : (((f k : Nat) : Int) != 44) = true := by rw [bne_iff_ne]; omega
        have z59 : (((f k : Nat) : Int) != 59) = true := by rw [bne_iff_ne]; omega
        clear hP hok
        generalize AL f k = L at *
        generalize f k = c at *
        go_wp2_with (at_builtin; refine wpList_append_own _ rfl _ _ 22 rfl w1.heap.size 5 i0 (.int .u8 0) 1 1 Try.underlying22 hi hz0 hz1 hz2 rfl (by decide) _ _ _ rfl (hown.alloc _) ⟨wr.heap.size, 0, none⟩ 1 1 [.int .u8 (c : Nat)] rfl rfl (cell1 _ _ _) (one1 _) Hc3.out.1 Hc3.out.2 (c5_of hsz) ?_)
        intro v' w2 hown' hgrow _
        have Hb2 := hidden (below_append1 hsz hown Hnx.out hgrow)
        have Hw2 := hidden hown'
        clear hown' hgrow hown g0 g1
        go_wp2
        go_roundw
        case rel => exact ⟨k + 1, by omega, by go_num, by rw [Hr.out.1, Hr.out.2]; exact Hw2.out, Hb2.out⟩
        case measure => simp [intOf]; omega
      | false =>
        have Hr := hidden (AL_no hok)
        have Hown := hidden hown
        rw [hok] at hP
        clear hown hok
        by_cases q32 : 32 < f k
        · have z32 : (32 : Int) < ((f k : Nat) : Int) := by omega
          by_cases q127 : f k = 127
          · have z127 : (((f k : Nat) : Int) != 127) = false := by simp; omega
            clear hP q32 q127
            generalize f k = c at *
            go_wp2
            go_roundw
            case rel => exact ⟨k + 1, by omega, by go_num, by rw [Hr.out]; exact Hown.out, Hnx.out⟩
            case measure => simp [intOf]; omega
          have z127 : (((f k : Nat) : Int) != 127) = true := by rw [bne_iff_ne]; omega
          by_cases q40 : f k = 40
          · have z40 : (((f k : Nat) : Int) != 40) = false := by simp; omega
            clear hP q32 q40
            generalize f k = c at *
            go_wp2
            go_roundw
            case rel => exact ⟨k + 1, by omega, by go_num, by rw [Hr.out]; exact Hown.out, Hnx.out⟩
            case measure => simp [intOf]; omega
          have z40 : (((f k : Nat) : Int) != 40) = true := by rw [bne_iff_ne]; omega
          by_cases q41 : f k = 41
          · have z41 : (((f k : Nat) : Int) != 41) = false := by simp; omega
            clear hP q32 q41
            generalize f k = c at *
            go_wp2
            go_roundw
            case rel => exact ⟨k + 1, by omega, by go_num, by rw [Hr.out]; exact Hown.out, Hnx.out⟩
            case measure => simp [intOf]; omega
          have z41 : (((f k : Nat) : Int) != 41) = true := by rw [bne_iff_ne]; omega
          by_cases q34 : f k = 34
          · have z34 : (((f k : Nat) : Int) != 34) = false := by simp; omega
            clear hP q32 q34
            generalize f k = c at *
            go_wp2
            go_roundw
            case rel => exact ⟨k + 1, by omega, by go_num, by rw [Hr.out]; exact Hown.out, Hnx.out⟩
            case measure => simp [intOf]; omega
          have z34 : (((f k : Nat) : Int) != 34) = true := by rw [bne_iff_ne]; omega
          by_cases q39 : f k = 39
          · have z39 : (((f k : Nat) : Int) != 39) = false := by simp; omega
            clear hP q32 q39
            generalize f k = c at *
            go_wp2
            go_roundw
            case rel => exact ⟨k + 1, by omega, by go_num, by rw [Hr.out]; exact Hown.out, Hnx.out⟩
            case measure => simp [intOf]; omega
          have z39 : (((f k : Nat) : Int) != 39) = true := by rw [bne_iff_ne]; omega
          by_cases q96 : f k = 96
          · have z96 : (((f k : Nat) : Int) != 96) = false := by simp; omega
            clear hP q32 q96
            generalize f k = c at *
            go_wp2
            go_roundw
            case rel => exact ⟨k + 1, by omega, by go_num, by rw [Hr.out]; exact Hown.out, Hnx.out⟩
            case measure => simp [intOf]; omega
          have z96 : (((f k : Nat) : Int) != 96) = true := by rw [bne_iff_ne]; omega
          by_cases q44 : f k = 44
          · have z44 : (((f k : Nat) : Int) != 44) = false := by simp; omega
            clear hP q32 q44
            generalize f k = c at *
            go_wp2
            go_roundw
            case rel => exact ⟨k + 1, by omega, by go_num, by rw [Hr.out]; exact Hown.out, Hnx.out⟩
            case measure => simp [intOf]; omega
          have z44 : (((f k : Nat) : Int) != 44) = true := by rw [bne_iff_ne]; omega
          have q59 : f k = 59 := by simp [q32, q127, q40, q41, q34, q39, q96, q44] at hP; exact hP
          have z59 : (((f k : Nat) : Int) != 59) = false := by simp; omega
          clear hP q32 q59 q127 q40 q41 q34 q39 q96 q44
          generalize f k = c at *
          go_wp2
          go_roundw
          case rel => exact ⟨k + 1, by omega, by go_num, by rw [Hr.out]; exact Hown.out, Hnx.out⟩
          case measure => simp [intOf]; omega
        · have z32 : decide ((32 : Int) < ((f k : Nat) : Int)) = false := by simp; omega
          clear hP q32
          generalize f k = c at *
          go_wp2
          go_roundw
          case rel => exact ⟨k + 1, by omega, by go_num, by rw [Hr.out]; exact Hown.out, Hnx.out⟩
          case measure => simp [intOf]; omega
    · obtain rfl : k = n := by omega
      have hlz2 : ¬ ((k : Int) < (k : Int)) := by omega
      have hkb : (AL f k).length ≤ 301 := by have := Hn.out; omega
      have hsz := hnx.size
      have Hnx := hidden hnx
      have hans := ans_AL f k
      have hlt' := AL_lt f Hf.out k
      have hpos := AL_pos f k
      clear hnx hql
      generalize AL f k = L at *
      have hrow := row_ofL rfl hown
      have B2 := hidden (B1.out.trans (Hnx.out.mono B1.out.size))
      have cr := read_any _ _ _ wr (fOf_lt hlt') (by omega) hrow
      rw [hans] at cr
      obtain ⟨va, vc, rfl, _⟩ := hrow
      clear hown hans hlt'
      generalize L.length = m at *
      go_wp2_with fail
      refine cr.mono ?_
      rintro e w3 ⟨tv, rfl, ⟨a3, k3, rfl, h3⟩, hb3⟩
      obtain ⟨g, rfl, hgc, hcell⟩ := h3 Nat.zero_lt_one
      have g2 : w3.cell? ⟨g, 0, none⟩ = some (.int .u8 5) := (hcell 0 Nat.zero_lt_one).1
      have g3 : w3.cell? ⟨g, 1, none⟩ = some (.int .i64 0) := (hcell 0 Nat.zero_lt_one).2.1
      have g4 : w3.cell? ⟨g, 2, none⟩ = some (.int .i64 (m : Int)) := (hcell 0 Nat.zero_lt_one).2.2
      have B3 := hidden (B2.out.trans (hb3.mono B2.out.size))
      clear cr hb3 hcell h3
      go_wp2_with fail
      go_ret
      exact ⟨by simp, B3.out⟩
theorem law (v : Value) (n : Nat) (f : Nat → Nat) (w : World) (h : IsArg w v n f) :
    Calls Try.prog 8 #[v] w fun e w' => e = .returned (.bool true) ∧ Below w.heap.size w w' := by
  by_cases hn : 300 < n
  · exact long v n f w h hn
  · exact short v n f w h (by omega)

set_option maxRecDepth 100000 in
theorem lifted (os : Os) (started : os.Started) (H : Type) (enc : TypeId × Value → H) :
    ReturnsInHanded {} Try.checked os 8 .any (Rows.sexpAtomsSpec.pre6 enc Try.prog Try.f8 Rows.sexpAtomsRow.domain false) (Rows.sexpAtomsSpec.post enc Try.prog Try.f8 false true false false) := by
  refine returnsInHanded_of_change (C := Try.checked) own started (by kernel_rfl) Try.func8
    (ChangeSpec.witness6 (enc := enc) (C := Try.checked) false ⟨#[], #[.slice none 0 0], []⟩ 8 (by kernel_rfl) (by kernel_rfl) (by kernel_rfl) (by kernel_rfl)) ?_
  intro W base args ds gs before hval0 hW _ _
  have hval : ∀ (j : Nat) t v, Try.f8.params[j]? = some t → args[j]? = some v → Value.okWide Try.prog W .any base t v := hval0
  have hW' := hW
  obtain ⟨p, q, hA0, hV, rfl, _, _⟩ := hW
  have hA : DataW.TrodAll enc Try.prog W 0 (fun _ => true) true Try.f8.params.toList args.toList ds p := hA0
  rw [Try.params8] at hA hval
  obtain ⟨v0, vs0, d0, ds0, p0, q0, hargs, rfl, rfl, h0, r0⟩ := trodAll_cons hA
  obtain ⟨rfl, rfl, rfl⟩ := trodAll_nil r0
  obtain rfl : args = #[v0] := by cases args; simp_all
  obtain ⟨rfl, rfl⟩ := trodVars_none hV
  have lt0 : ∀ x ∈ p0, x.block < W.heap.size := by obtain ⟨m, hm⟩ := h0; exact DataW.trod_lt m _ _ _ hm
  obtain ⟨n0, f0, g0⟩ := open_bytes (hval 0 22 v0 rfl rfl) h0
  clear hA0 hval0
  simp only [List.append_nil] at hW'
  refine (law v0 n0 f0 W g0).mono fun e W' ⟨he, bel⟩ => ?_
  subst he
  exact ⟨_, rfl, _, _, _, [], _, [], hW', trodAll_mk1 (shut_bool Try.underlying4 _), (trodAll_cons_mk (Below.trod laidOut (by kernel_rfl) (of_decide_eq_true (by kernel_rfl)) h0 bel lt0) trodAll_mk0), rfl, bel.frame _, fun h => by cases h⟩

theorem said : Rows.SexpAtomsSaid :=
  OpenClaim.holds_of_wide 8 Try.f8 rfl rfl rfl rfl rfl rfl rfl ⟨rfl, rfl, rfl, rfl, rfl⟩ rfl rfl rfl rfl rfl (by kernel_rfl) Try.func8 (by kernel_rfl)
    (of_decide_eq_true (by kernel_rfl)) (by unfold Func.isWrapper; first | (rw [if_pos (by decide +kernel)]; kernel_rfl) | (rw [if_neg (by decide +kernel)]; exact ⟨rfl, rfl⟩))
    (fun os started H enc _ => lifted os started H enc)
#print axioms said
end Go.Proofs.Ytpcfbdnckmfelaa.Atoms
