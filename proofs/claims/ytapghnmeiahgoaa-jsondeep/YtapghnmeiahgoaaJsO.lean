/- What begin and inside of the document's machine come to. -/
import Derived.Test.YtapghnmeiahgoaaJsN
namespace Go.Proofs.PlatenJson
open Go Go.RowKit
set_option linter.unusedVariables false
set_option maxRecDepth 100000
section
variable {B K : Nat} {w0 w : World}
theorem cell_new (X : World) (t : TypeId) (a : Value) : (X.alloc (.cells #[a] t)).cell? ⟨X.heap.size, 0, none⟩ = some a := by
  have := heap_alloc_new X (.cells #[a] t)
  unfold World.cell?
  rw [this]
  rfl
set_option maxHeartbeats 4000000 in
theorem begin_any {M : Mc} (h : MM B K w0 w M) (c i : Nat) (hc : c < 256) (hS : M.stack.length ≤ 512) (hT : M.l.length ≤ 1000000) :
    Calls Try.prog 29 #[.pointer (some ⟨K, 0, none⟩), .int .u8 (c : Nat), .int .i64 (i : Nat)] w (Does B K w0 (begin' M c i)) := by
  obtain ⟨sv, lv, h⟩ := h
  obtain ⟨st, S, fr, nm, left, cnt, T⟩ := M
  simp only at h hS hT
  have c2 := h.c2
  have f2 := h.free 2
  have H := hidden (h.from' i)
  have c0 := h.c0
  have f0 := h.free 0
  have c4 := h.c4
  have f4 := h.free 4
  have c1 := h.c1
  have f1 := h.free 1
  have cd := digit_any c (w.setCell ⟨K, 2, none⟩ (.int .i64 (i : Nat))) hc
  clear h
  by_cases h123 : c = 123
  · have z123 : ((c : Int) == 123) = true := by simp; omega
    obtain ⟨va, vc, hv⟩ := row_slice H.out.srow
    subst hv
    by_cases hd : S.length = 512
    · have e1 : Hid (begin' ⟨st, S, fr, nm, left, cnt, T⟩ c i = (6, ⟨st, S, i, nm, left, cnt, T⟩)) := by unfold Hid; simp [begin', h123, hd]
      have zd : ((S.length : Int) == 512) = true := by simp; omega
      clear hd h123
      go_enter Try.func29, Try.ntmps29
      go_wp2_with fail
      go_ret
      rw [e1.out]
      exact ⟨rfl, _, _, H.out⟩
    · have e1 : Hid (begin' ⟨st, S, fr, nm, left, cnt, T⟩ c i = (0, ⟨2, c :: S, i, nm, left, cnt, T ++ [(1, i, 1)]⟩)) := by unfold Hid; simp [begin', h123, hd]
      have zd : ((S.length : Int) == 512) = false := by simp; omega
      have hl5 : S.length ≤ 511 := by omega
      obtain ⟨i0, hi, hz0, hz1, hz2⟩ := info_parts info5
      have H1 := hidden (H.out.grown (grownBy_alloc (w.setCell ⟨K, 2, none⟩ (.int .i64 (i : Nat))) (.cells #[.int .u8 (c : Nat)] 5)))
      have hown := H1.out.srow
      clear hd h123 cd H
      go_enter Try.func29, Try.ntmps29
      go_wp2_with (at_builtin; refine wpList_append_at _ rfl _ _ 22 rfl B 5 i0 (.int .u8 0) 1 1 Try.underlying22 hi hz0 hz1 hz2 rfl (by decide) _ _ _ rfl hown ⟨w.heap.size, 0, none⟩ 1 1 [.int .u8 (c : Nat)] (by simp [Act.eval]) rfl ?c1 ?c2 ?c3 ?c4 ?c5 ?c6 ?_)
      case c1 =>
        intro j u hj
        match j, hj with
        | 0, hj =>
          simp at hj
          subst hj
          have := cell_new (w.setCell ⟨K, 2, none⟩ (.int .i64 (i : Nat))) 5 (.int .u8 (c : Nat))
          simpa [Addr.add] using this
        | j + 1, hj => simp at hj
      case c2 => intro u hu; simp at hu; rcases hu with rfl; rfl
      case c3 => unfold maxLen; omega
      case c4 => omega
      case c5 => exact H1.out.bs
      case c6 => decide
      intro v' w3 hr3 hg3 _
      have HP : Hid (MS B K w0 (w3.setCell ⟨K, 1, none⟩ v') v' lv st (c :: S) i nm (strOf left) cnt T) := H1.out.open' hr3 hg3
      have hd3 := (hg3.block K H1.out.lt (fun e => H1.out.sown e.symm)).trans H1.out.head
      have e3 : w3.cell? ⟨K, 1, none⟩ = some (.slice va S.length vc) := by simp only [World.cell?, hd3]; rfl
      have f3 : w3.frozen? ⟨K, 1, none⟩ = false := frozen_of_row w3 K 1 _ 41 hd3
      obtain ⟨va', vc', rfl⟩ := row_slice hr3
      have co := one_any (M := ⟨st, c :: S, i, nm, left, cnt, T⟩) ⟨_, _, HP.out⟩ 1 i 1 hT
      clear hr3 hg3 hd3 hown
      go_wp2_with fail
      refine co.mono ?_
      rintro e w4 ⟨rfl, sv4, lv4, h4⟩
      simp only [one] at h4
      have c04 := h4.c0
      have f04 := h4.free 0
      have H5 := hidden (h4.state 2)
      clear co h4
      go_wp2_with fail
      go_ret
      rw [e1.out]
      exact ⟨rfl, _, _, H5.out⟩
  have z123 : ((c : Int) == 123) = false := by simp; omega
  by_cases h91 : c = 91
  · have z91 : ((c : Int) == 91) = true := by simp; omega
    obtain ⟨va, vc, hv⟩ := row_slice H.out.srow
    subst hv
    by_cases hd : S.length = 512
    · have e1 : Hid (begin' ⟨st, S, fr, nm, left, cnt, T⟩ c i = (6, ⟨st, S, i, nm, left, cnt, T⟩)) := by unfold Hid; simp [begin', h91, hd]
      have zd : ((S.length : Int) == 512) = true := by simp; omega
      clear hd h91
      go_enter Try.func29, Try.ntmps29
      go_wp2_with fail
      go_ret
      rw [e1.out]
      exact ⟨rfl, _, _, H.out⟩
    · have e1 : Hid (begin' ⟨st, S, fr, nm, left, cnt, T⟩ c i = (0, ⟨1, c :: S, i, nm, left, cnt, T ++ [(1, i, 1)]⟩)) := by unfold Hid; simp [begin', h91, hd]
      have zd : ((S.length : Int) == 512) = false := by simp; omega
      have hl5 : S.length ≤ 511 := by omega
      obtain ⟨i0, hi, hz0, hz1, hz2⟩ := info_parts info5
      have H1 := hidden (H.out.grown (grownBy_alloc (w.setCell ⟨K, 2, none⟩ (.int .i64 (i : Nat))) (.cells #[.int .u8 (c : Nat)] 5)))
      have hown := H1.out.srow
      clear hd h91 cd H
      go_enter Try.func29, Try.ntmps29
      go_wp2_with (at_builtin; refine wpList_append_at _ rfl _ _ 22 rfl B 5 i0 (.int .u8 0) 1 1 Try.underlying22 hi hz0 hz1 hz2 rfl (by decide) _ _ _ rfl hown ⟨w.heap.size, 0, none⟩ 1 1 [.int .u8 (c : Nat)] (by simp [Act.eval]) rfl ?c1 ?c2 ?c3 ?c4 ?c5 ?c6 ?_)
      case c1 =>
        intro j u hj
        match j, hj with
        | 0, hj =>
          simp at hj
          subst hj
          have := cell_new (w.setCell ⟨K, 2, none⟩ (.int .i64 (i : Nat))) 5 (.int .u8 (c : Nat))
          simpa [Addr.add] using this
        | j + 1, hj => simp at hj
      case c2 => intro u hu; simp at hu; rcases hu with rfl; rfl
      case c3 => unfold maxLen; omega
      case c4 => omega
      case c5 => exact H1.out.bs
      case c6 => decide
      intro v' w3 hr3 hg3 _
      have HP : Hid (MS B K w0 (w3.setCell ⟨K, 1, none⟩ v') v' lv st (c :: S) i nm (strOf left) cnt T) := H1.out.open' hr3 hg3
      have hd3 := (hg3.block K H1.out.lt (fun e => H1.out.sown e.symm)).trans H1.out.head
      have e3 : w3.cell? ⟨K, 1, none⟩ = some (.slice va S.length vc) := by simp only [World.cell?, hd3]; rfl
      have f3 : w3.frozen? ⟨K, 1, none⟩ = false := frozen_of_row w3 K 1 _ 41 hd3
      obtain ⟨va', vc', rfl⟩ := row_slice hr3
      have co := one_any (M := ⟨st, c :: S, i, nm, left, cnt, T⟩) ⟨_, _, HP.out⟩ 1 i 1 hT
      clear hr3 hg3 hd3 hown
      go_wp2_with fail
      refine co.mono ?_
      rintro e w4 ⟨rfl, sv4, lv4, h4⟩
      simp only [one] at h4
      have H5 := hidden h4
      clear co h4
      go_wp2_with fail
      go_ret
      rw [e1.out]
      exact ⟨rfl, _, _, H5.out⟩
  have z91 : ((c : Int) == 91) = false := by simp; omega
  by_cases h34 : c = 34
  · have z34 : ((c : Int) == 34) = true := by simp; omega
    have e1 : Hid (begin' ⟨st, S, fr, nm, left, cnt, T⟩ c i = (0, ⟨6, S, i, nm, left, cnt, T⟩)) := by unfold Hid; simp [begin', h34]
    have H5 := hidden (H.out.state 6)
    clear h34 h123 h91
    go_enter Try.func29, Try.ntmps29
    go_wp2_with fail
    go_ret
    rw [e1.out]
    exact ⟨rfl, _, _, H5.out⟩
  have z34 : ((c : Int) == 34) = false := by simp; omega
  by_cases h45 : c = 45
  · have z45 : ((c : Int) == 45) = true := by simp; omega
    have e1 : Hid (begin' ⟨st, S, fr, nm, left, cnt, T⟩ c i = (0, ⟨9, S, i, nm, left, cnt, T⟩)) := by unfold Hid; simp [begin', h45]
    have H5 := hidden (H.out.state 9)
    clear h45 h123 h91 h34
    go_enter Try.func29, Try.ntmps29
    go_wp2_with fail
    go_ret
    rw [e1.out]
    exact ⟨rfl, _, _, H5.out⟩
  have z45 : ((c : Int) == 45) = false := by simp; omega
  by_cases h48 : c = 48
  · have z48 : ((c : Int) == 48) = true := by simp; omega
    have e1 : Hid (begin' ⟨st, S, fr, nm, left, cnt, T⟩ c i = (0, ⟨10, S, i, nm, left, cnt, T⟩)) := by unfold Hid; simp [begin', h48]
    have H5 := hidden (H.out.state 10)
    clear h48 h123 h91 h34 h45
    go_enter Try.func29, Try.ntmps29
    go_wp2_with fail
    go_ret
    rw [e1.out]
    exact ⟨rfl, _, _, H5.out⟩
  have z48 : ((c : Int) == 48) = false := by simp; omega
  by_cases hD : isD c = true
  · have e1 : Hid (begin' ⟨st, S, fr, nm, left, cnt, T⟩ c i = (0, ⟨11, S, i, nm, left, cnt, T⟩)) := by unfold Hid; simp [begin', h123, h91, h34, h45, h48, hD]
    rw [hD] at cd
    have H5 := hidden (H.out.state 11)
    clear h123 h91 h34 h45 h48 hD
    go_enter Try.func29, Try.ntmps29
    go_wp2_with fail
    refine cd.mono ?_
    rintro e w2 ⟨rfl, rfl⟩
    go_wp2_with fail
    go_ret
    rw [e1.out]
    exact ⟨rfl, _, _, H5.out⟩
  have hD' : isD c = false := by simpa using hD
  rw [hD'] at cd
  by_cases h116 : c = 116
  · have z116 : ((c : Int) == 116) = true := by simp; omega
    have e1 : Hid (begin' ⟨st, S, fr, nm, left, cnt, T⟩ c i = (0, ⟨17, S, i, nm, [114, 117, 101], cnt, T⟩)) := by unfold Hid; subst h116; simp [begin', isD]
    have H5 := hidden ((H.out.state 17).word (strOf [114, 117, 101]))
    have es : Hid (strOf [114, 117, 101] = ⟨#[114, 117, 101]⟩) := rfl
    rw [es.out] at H5
    clear h116 hD hD' h123 h91 h34 h45 h48
    go_enter Try.func29, Try.ntmps29
    go_wp2_with fail
    refine cd.mono ?_
    rintro e w2 ⟨rfl, rfl⟩
    go_wp2_with fail
    go_ret
    rw [e1.out]
    exact ⟨rfl, _, _, H5.out⟩
  have z116 : ((c : Int) == 116) = false := by simp; omega
  by_cases h102 : c = 102
  · have z102 : ((c : Int) == 102) = true := by simp; omega
    have e1 : Hid (begin' ⟨st, S, fr, nm, left, cnt, T⟩ c i = (0, ⟨17, S, i, nm, [97, 108, 115, 101], cnt, T⟩)) := by unfold Hid; subst h102; simp [begin', isD]
    have H5 := hidden ((H.out.state 17).word (strOf [97, 108, 115, 101]))
    have es : Hid (strOf [97, 108, 115, 101] = ⟨#[97, 108, 115, 101]⟩) := rfl
    rw [es.out] at H5
    clear h102 hD hD' h123 h91 h34 h45 h48 h116
    go_enter Try.func29, Try.ntmps29
    go_wp2_with fail
    refine cd.mono ?_
    rintro e w2 ⟨rfl, rfl⟩
    go_wp2_with fail
    go_ret
    rw [e1.out]
    exact ⟨rfl, _, _, H5.out⟩
  have z102 : ((c : Int) == 102) = false := by simp; omega
  by_cases h110 : c = 110
  · have z110 : ((c : Int) == 110) = true := by simp; omega
    have e1 : Hid (begin' ⟨st, S, fr, nm, left, cnt, T⟩ c i = (0, ⟨17, S, i, nm, [117, 108, 108], cnt, T⟩)) := by unfold Hid; subst h110; simp [begin', isD]
    have H5 := hidden ((H.out.state 17).word (strOf [117, 108, 108]))
    have es : Hid (strOf [117, 108, 108] = ⟨#[117, 108, 108]⟩) := rfl
    rw [es.out] at H5
    clear h110 hD hD' h123 h91 h34 h45 h48 h116 h102
    go_enter Try.func29, Try.ntmps29
    go_wp2_with fail
    refine cd.mono ?_
    rintro e w2 ⟨rfl, rfl⟩
    go_wp2_with fail
    go_ret
    rw [e1.out]
    exact ⟨rfl, _, _, H5.out⟩
  have z110 : ((c : Int) == 110) = false := by simp; omega
  have e1 : Hid (begin' ⟨st, S, fr, nm, left, cnt, T⟩ c i = (5, ⟨st, S, i, nm, left, cnt, T⟩)) := by unfold Hid; simp [begin', h123, h91, h34, h45, h48, hD', h116, h102, h110]
  clear h123 h91 h34 h45 h48 hD hD' h116 h102 h110
  go_enter Try.func29, Try.ntmps29
  go_wp2_with fail
  refine cd.mono ?_
  rintro e w2 ⟨rfl, rfl⟩
  go_wp2_with fail
  go_ret
  rw [e1.out]
  exact ⟨rfl, _, _, H.out⟩
end
end Go.Proofs.PlatenJson
