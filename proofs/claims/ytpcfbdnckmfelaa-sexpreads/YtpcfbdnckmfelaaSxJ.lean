/- What the document's Read comes to. -/
import Derived.Test.YtpcfbdnckmfelaaSxI
namespace Go.Proofs.PlatenSexp
open Go Go.RowKit
set_option linter.unusedVariables false
set_option maxRecDepth 100000

theorem aft_le (d : Nat) : aft d ≤ 6 := by rcases aft_cases d with ⟨e, _⟩ | ⟨e, _⟩ <;> omega
theorem start_st {M : Sm} {c i : Nat} (h : M.st ≤ 6) : (start M c i).2.st ≤ 6 := by
  unfold start
  split
  · simp
  split
  · simp
  split
  · split
    · exact h
    · simp
  split
  · simp
  split
  · simp
  · exact h
theorem feedB_st {M : Sm} {c i : Nat} (h : M.st ≤ 6) : (feedB M c i).2.st ≤ 6 := by
  unfold feedB
  split
  · exact h
  split
  · exact h
  split
  · exact aft_le _
  · exact start_st h
theorem feed_st {M : Sm} {c i : Nat} (h : M.st ≤ 6) : (feed M c i).2.st ≤ 6 := by
  unfold feed
  split
  · split
    · exact aft_le _
    split
    · simp
    · exact h
  split
  · simp
  split
  · split
    · exact h
    · exact feedB_st (aft_le _)
  split
  · split
    · simp
    · exact feedB_st (by simp)
  · exact feedB_st h
theorem iv0 : Iv M0 0 := ⟨by decide, by decide, by decide, fun e => absurd e (by decide)⟩

set_option maxHeartbeats 8000000 in
theorem rread_any (v : Value) (n : Nat) (f : Nat → Nat) (w : World) (hf : ∀ j, f j < 256) (hn : n ≤ 100000) (h : Row w v n f) :
    Calls Try.prog 12 #[v] w (RdP w (ans f n)) := by
  have HR := hidden h
  obtain ⟨a, cap, rfl, _⟩ := h
  have Hf := hidden hf
  have Ho : Hid (ans f n = out f n M0 0) := rfl
  generalize ans f n = o at *
  clear hf
  have H0 : Hid (MM w.heap.size w.heap.size w (w.alloc (.cells #[.int .u8 0, .int .i64 0, .int .i64 0, .slice none 0 0] 45)) M0) :=
    ⟨_, Nat.le_refl _, by simp, heap_alloc_new _ _, World.ownsRow_nil _ _ _ _, (Below.refl _ _).alloc (Nat.le_refl _) _⟩
  go_enter Try.func12, Try.ntmps12
  go_wp2_with fail
  generalize w.alloc (.cells #[.int .u8 0, .int .i64 0, .int .i64 0, .slice none 0 0] 45) = wa at *
  go_loopw [6, 7] (fun i e wr => ∃ (k : Nat) (M : Sm), k ≤ n ∧ i = .int .i64 (k : Nat) ∧ MM w.heap.size w.heap.size w wr M ∧ Iv M k ∧ M.st ≤ 6 ∧ o = out f n M k) (fun i _ _ => n - (intOf i).toNat)
  case atStart => exact ⟨0, M0, Nat.zero_le _, rfl, H0.out, iv0, by decide, Ho.out⟩
  case round =>
    obtain ⟨k, M, hk, rfl, hm, hv, hs, ho⟩ := hrel
    clear H0 Ho
    by_cases hlt : k < n
    · have hlz : (k : Int) < (n : Int) := by omega
      obtain ⟨a', cap', hva, hrow⟩ := HR.out
      injection hva with e1 e2 e3
      subst e1 e3
      obtain ⟨b, off, rfl, hcap, hc⟩ := hrow (by omega)
      have g0 := hc k hlt
      have hbel := hm.choose_spec.bel
      rw [← hbel.cell (p := ⟨b, off + k, none⟩) (World.block_lt_of_cell? _ _ g0)] at g0
      have cf := feed_any hm (f k) k (by omega) hs hv
      have Hv := hidden hv
      have HO := hidden ho
      have Hst := hidden hs
      clear hc hrow hbel hv ho e2 hm hs
      cases hx : (feed M (f k) k).1 with
      | zero =>
        have Hout := hidden (HO.out.trans (out_ok (M' := (feed M (f k) k).2) hlt (by rw [← hx])))
        have Hv2 := hidden (feed_iv Hv.out hx)
        have Hs2 : Hid ((feed M (f k) k).2.st ≤ 6) := feed_st Hst.out
        unfold Does at cf
        rw [hx] at cf
        generalize (feed M (f k) k).2 = M' at *
        clear hx
        generalize f k = c at *
        go_wp2_with fail
        refine cf.mono ?_
        rintro e w2 ⟨rfl, h2⟩
        have H2 := hidden h2
        clear cf h2
        go_wp2_with fail
        go_roundw
        case rel => exact ⟨k + 1, M', by omega, by go_num, H2.out, Hv2.out, Hs2.out, Hout.out⟩
        case measure => simp [intOf]; omega
      | succ x =>
        have Hout := hidden (HO.out.trans (out_no (M' := (feed M (f k) k).2) (x := x + 1) hlt (by rw [← hx]) (by omega)))
        unfold Does at cf
        rw [hx] at cf
        have hxz : (((x + 1 : Nat) : Int) != 0) = true := by rw [bne_iff_ne]; omega
        generalize (feed M (f k) k).2 = M' at *
        clear hx
        generalize f k = c at *
        generalize x + 1 = x' at *
        go_wp2_with fail
        refine cf.mono ?_
        rintro e w2 ⟨rfl, lv, h2⟩
        have H2 := hidden h2
        clear cf h2
        go_wp2_with fail
        go_ret3
        rw [Hout.out]
        exact ⟨_, rfl, isTk_nil _, H2.out.bel⟩
    · obtain rfl : k = n := by omega
      have hlz : ¬ ((k : Int) < (k : Int)) := by omega
      have HO : Hid (o = fin' M k) := by rw [out_end] at ho; exact ho
      have hl := hv.l
      have hfr := hv.fr
      have ct := mtoken hm 5 M.fr k hfr (by omega) (by omega)
      obtain ⟨lv, h⟩ := hm
      have c0 := h.c0
      have c2 := h.c2
      clear ho hs
      unfold fin' at HO
      by_cases he : M.st = 3
      · have ze : ((M.st : Int) == 3) = true := by simp; omega
        rw [if_pos he] at HO
        clear h hv he
        go_wp2_with fail
        refine ct.mono ?_
        rintro e w2 ⟨rfl, h2⟩
        have cd := mdone h2
        clear h2
        go_wp2_with fail
        refine cd.mono ?_
        rintro e w2 ⟨rfl, lv2, h2⟩
        clear ct cd c0 c2
        have c0 := h2.c0
        have c3 := h2.c3
        have H2 := hidden h2
        clear h2
        simp only at c0 c3
        by_cases q : aft M.dep = 6
        · have z5 : ((aft M.dep : Int) != 6) = false := by simp; omega
          have HF : Hid (o = (M.l ++ [(5, M.fr, k - M.fr)], 0, 0)) := by
            unfold Hid; rw [HO.out]; unfold finA
            rw [if_neg (by simpa using q)]
          clear HO q
          generalize (aft M.dep : Int) = s2 at *
          go_wp2_with fail
          go_ret3
          rw [HF.out]
          exact ⟨_, rfl, isTk_of H2.out.lrow, H2.out.bel⟩
        · have z5 : ((aft M.dep : Int) != 6) = true := by rw [bne_iff_ne]; omega
          have HF : Hid (o = ([], k, 5)) := by
            unfold Hid; rw [HO.out]; unfold finA
            rw [if_pos (by simpa using q)]
          clear HO q
          generalize (aft M.dep : Int) = s2 at *
          go_wp2_with fail
          go_ret3
          rw [HF.out]
          exact ⟨_, rfl, isTk_nil _, H2.out.bel⟩
      · have ze : ((M.st : Int) == 3) = false := by simp; omega
        rw [if_neg he] at HO
        have c3 := h.c3
        have H2 := hidden h
        clear hv he h ct
        by_cases q : M.st = 6
        · have z5 : ((M.st : Int) != 6) = false := by simp; omega
          have HF : Hid (o = (M.l, 0, 0)) := by
            unfold Hid; rw [HO.out]; unfold finA
            rw [if_neg (by simpa using q)]
          clear HO q
          go_wp2_with fail
          go_ret3
          rw [HF.out]
          exact ⟨_, rfl, isTk_of H2.out.lrow, H2.out.bel⟩
        · have z5 : ((M.st : Int) != 6) = true := by rw [bne_iff_ne]; omega
          have HF : Hid (o = ([], k, 5)) := by
            unfold Hid; rw [HO.out]; unfold finA
            rw [if_pos (by simpa using q)]
          clear HO q
          go_wp2_with fail
          go_ret3
          rw [HF.out]
          exact ⟨_, rfl, isTk_nil _, H2.out.bel⟩
end Go.Proofs.PlatenSexp
