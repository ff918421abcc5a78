/- What the document's Read, and Same, come to. -/
import Derived.Test.YtapghnmeiahgoaaJsS
namespace Go.Proofs.PlatenJson
open Go Go.RowKit
set_option linter.unusedVariables false
set_option maxRecDepth 100000

theorem iv0 : Iv M0 0 := ⟨by decide, by decide, by decide, by decide, fun e => absurd e (by decide), fun e => absurd e (by decide)⟩
theorem strOf_nil : strOf [] = ⟨#[]⟩ := rfl
set_option maxHeartbeats 8000000 in
theorem rread_any (v : Value) (n : Nat) (f : Nat → Nat) (w : World) (hf : ∀ j, f j < 256) (hn : n ≤ 100000) (h : Row w v n f) :
    Calls Try.prog 12 #[v] w (RdP w (ans f n)) := by
  have HR := hidden h
  obtain ⟨a, cap, rfl, _⟩ := h
  have Hf := hidden hf
  have Ho : Hid (ans f n = out f n M0 0) := rfl
  generalize ans f n = o at *
  clear hf
  have H0 : Hid (MM w.heap.size w.heap.size w (w.alloc (.cells #[.int .u8 0, .slice none 0 0, .int .i64 0, .bool false, .string ⟨#[]⟩, .int .i64 0, .slice none 0 0] 41)) M0) :=
    ⟨_, _, Nat.le_refl _, by simp, heap_alloc_new _ _, World.ownsRow_nil _ _ _ _, World.ownsRow_nil _ _ _ _, (Below.refl _ _).alloc (Nat.le_refl _) _⟩
  go_enter Try.func12, Try.ntmps12
  go_wp2_with fail
  generalize w.alloc (.cells #[.int .u8 0, .slice none 0 0, .int .i64 0, .bool false, .string ⟨#[]⟩, .int .i64 0, .slice none 0 0] 41) = wa at *
  go_loopw [6, 7] (fun i e wr => ∃ (k : Nat) (M : Mc), k ≤ n ∧ i = .int .i64 (k : Nat) ∧ MM w.heap.size w.heap.size w wr M ∧ Iv M k ∧ o = out f n M k) (fun i _ _ => n - (intOf i).toNat)
  case atStart => exact ⟨0, M0, Nat.zero_le _, rfl, H0.out, iv0, Ho.out⟩
  case round =>
    obtain ⟨k, M, hk, rfl, hm, hv, ho⟩ := hrel
    clear H0 Ho
    by_cases hlt : k < n
    · have hlz : (k : Int) < (n : Int) := by omega
      obtain ⟨a', cap', hva, hrow⟩ := HR.out
      injection hva with e1 e2 e3
      subst e1 e3
      obtain ⟨b, off, rfl, hcap, hc⟩ := hrow (by omega)
      have g0 := hc k hlt
      have hbel := hm.choose_spec.choose_spec.bel
      rw [← hbel.cell (p := ⟨b, off + k, none⟩) (World.block_lt_of_cell? _ _ g0)] at g0
      have cf := feed_any hm (f k) k (Hf.out k) (by omega) hv
      have Hv := hidden hv
      have HO := hidden ho
      clear hc hrow hbel hv ho e2 hm
      have Hfeed : Hid (feed M (f k) k = feed M (f k) k) := rfl
      cases hx : (feed M (f k) k).1 with
      | zero =>
        have Hout := hidden (HO.out.trans (out_ok (M' := (feed M (f k) k).2) hlt (by rw [← hx])))
        have Hv2 := hidden (feed_iv (Hf.out k) Hv.out hx)
        unfold Does at cf
        rw [hx] at cf
        generalize (feed M (f k) k).2 = M' at *
        clear hx Hfeed
        generalize f k = c at *
        go_wp2_with fail
        refine cf.mono ?_
        rintro e w2 ⟨rfl, h2⟩
        have H2 := hidden h2
        clear cf h2
        go_wp2_with fail
        go_roundw
        case rel => exact ⟨k + 1, M', by omega, by go_num, H2.out, Hv2.out, Hout.out⟩
        case measure => simp [intOf]; omega
      | succ x =>
        have Hout := hidden (HO.out.trans (out_no (M' := (feed M (f k) k).2) (x := x + 1) hlt (by rw [← hx]) (by omega)))
        unfold Does at cf
        rw [hx] at cf
        have hxz : (((x + 1 : Nat) : Int) != 0) = true := by rw [bne_iff_ne]; omega
        generalize (feed M (f k) k).2 = M' at *
        clear hx Hfeed
        generalize f k = c at *
        generalize x + 1 = x' at *
        go_wp2_with fail
        refine cf.mono ?_
        rintro e w2 ⟨rfl, sv, lv, h2⟩
        have H2 := hidden h2
        clear cf h2
        go_wp2_with fail
        go_ret3
        rw [Hout.out]
        exact ⟨_, rfl, isTk_nil _, H2.out.bel⟩
    · obtain rfl : k = n := by omega
      have hlz : ¬ ((k : Int) < (k : Int)) := by omega
      have HO : Hid (o = fin' M k) := by rw [out_end] at ho; exact ho
      have hS := hv.S
      have hl := hv.l
      have hfr := hv.fr
      have ce := ends_any M.st wr
      have ca := atom_any hm k hfr (by omega) (by omega)
      obtain ⟨sv, lv, h⟩ := hm
      have c0 := h.c0
      clear ho
      unfold fin' at HO
      cases he : ends M.st with
      | true =>
        rw [he] at ce
        rw [he, if_pos rfl] at HO
        have H1 := hidden h
        clear h hv he
        have hS2 : (atom M k).stack.length ≤ 512 := hS
        generalize atom M k = M2 at *
        go_wp2_with fail
        refine ce.mono ?_
        rintro e w2 ⟨rfl, rfl⟩
        go_wp2_with fail
        refine ca.mono ?_
        rintro e w2 ⟨rfl, sv2, lv2, h2⟩
        clear ca ce c0
        have c0 := h2.c0
        have c1 := h2.c1
        have c6 := h2.c6
        obtain ⟨va, vc, hsv⟩ := row_slice h2.srow
        rw [hsv] at c1
        have H2 := hidden h2
        clear h2 hsv
        by_cases q : M2.st = 5
        · have z5 : ((M2.st : Int) != 5) = false := by simp; omega
          by_cases q2 : M2.stack.length = 0
          · have zl : ¬ ((0 : Int) < (M2.stack.length : Int)) := by omega
            have HF : Hid (o = (M2.l, 0, 0)) := by
              unfold Hid; rw [HO.out]; unfold finA
              rw [if_neg (by intro e; rcases e with e | e; exact e q; exact e (List.eq_nil_of_length_eq_zero q2))]
            clear HO q q2
            generalize M2.stack.length = m at *
            generalize M2.st = s2 at *
            go_wp2_with fail
            go_ret3
            rw [HF.out]
            exact ⟨_, rfl, isTk_of H2.out.lrow, H2.out.bel⟩
          · have zl : (0 : Int) < (M2.stack.length : Int) := by omega
            have HF : Hid (o = ([], k, 5)) := by
              unfold Hid; rw [HO.out]; unfold finA
              rw [if_pos (Or.inr (fun e => q2 (by rw [e]; rfl)))]
            clear HO q q2
            generalize M2.stack.length = m at *
            generalize M2.st = s2 at *
            go_wp2_with fail
            go_ret3
            rw [HF.out]
            exact ⟨_, rfl, isTk_nil _, H2.out.bel⟩
        · have z5 : ((M2.st : Int) != 5) = true := by rw [bne_iff_ne]; omega
          have HF : Hid (o = ([], k, 5)) := by
            unfold Hid; rw [HO.out]; unfold finA
            rw [if_pos (Or.inl q)]
          clear HO q
          generalize M2.stack.length = m at *
          generalize M2.st = s2 at *
          go_wp2_with fail
          go_ret3
          rw [HF.out]
          exact ⟨_, rfl, isTk_nil _, H2.out.bel⟩
      | false =>
        rw [he] at ce
        rw [he, if_neg (by decide)] at HO
        clear hv he ca c0
        have h2 := h
        have c0 := h2.c0
        clear h
        generalize M = M2 at *
        go_wp2_with fail
        refine ce.mono ?_
        rintro e w2 ⟨rfl, rfl⟩
        clear ce c0
        have c0 := h2.c0
        have c1 := h2.c1
        have c6 := h2.c6
        obtain ⟨va, vc, hsv⟩ := row_slice h2.srow
        rw [hsv] at c1
        have H2 := hidden h2
        clear h2 hsv
        by_cases q : M2.st = 5
        · have z5 : ((M2.st : Int) != 5) = false := by simp; omega
          by_cases q2 : M2.stack.length = 0
          · have zl : ¬ ((0 : Int) < (M2.stack.length : Int)) := by omega
            have HF : Hid (o = (M2.l, 0, 0)) := by
              unfold Hid; rw [HO.out]; unfold finA
              rw [if_neg (by intro e; rcases e with e | e; exact e q; exact e (List.eq_nil_of_length_eq_zero q2))]
            clear HO q q2
            generalize M2.stack.length = m at *
            generalize M2.st = s2 at *
            go_wp2_with fail
            go_ret3
            rw [HF.out]
            exact ⟨_, rfl, isTk_of H2.out.lrow, H2.out.bel⟩
          · have zl : (0 : Int) < (M2.stack.length : Int) := by omega
            have HF : Hid (o = ([], k, 5)) := by
              unfold Hid; rw [HO.out]; unfold finA
              rw [if_pos (Or.inr (fun e => q2 (by rw [e]; rfl)))]
            clear HO q q2
            generalize M2.stack.length = m at *
            generalize M2.st = s2 at *
            go_wp2_with fail
            go_ret3
            rw [HF.out]
            exact ⟨_, rfl, isTk_nil _, H2.out.bel⟩
        · have z5 : ((M2.st : Int) != 5) = true := by rw [bne_iff_ne]; omega
          have HF : Hid (o = ([], k, 5)) := by
            unfold Hid; rw [HO.out]; unfold finA
            rw [if_pos (Or.inl q)]
          clear HO q
          generalize M2.stack.length = m at *
          generalize M2.st = s2 at *
          go_wp2_with fail
          go_ret3
          rw [HF.out]
          exact ⟨_, rfl, isTk_nil _, H2.out.bel⟩
end Go.Proofs.PlatenJson
