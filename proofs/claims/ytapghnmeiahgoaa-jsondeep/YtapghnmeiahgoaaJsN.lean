/- What next and begin of the document's machine come to. -/
import Derived.Test.YtapghnmeiahgoaaJsL
namespace Go.Proofs.PlatenJson
open Go Go.RowKit
set_option linter.unusedVariables false
set_option maxRecDepth 100000

/-- A call of the machine's answers what the plain function does. -/
def Does (B K : Nat) (w0 : World) (p : Nat × Mc) (e : Ending) (w : World) : Prop := e = .returned (.int .i64 (p.1 : Nat)) ∧ MM B K w0 w p.2
section
variable {B K : Nat} {w0 w : World}
theorem MS.top {sv lv : Value} {st b : Nat} {S : List Nat} {fr : Nat} {nm : Bool} {left : ByteArray} {cnt : Nat} {T : List Tk} (h : MS B K w0 w sv lv st (b :: S) fr nm left cnt T) :
    ∃ g cap, sv = .slice (some ⟨g, 0, none⟩) (S.length + 1) cap ∧ w.cell? ⟨g, S.length, none⟩ = some (.int .u8 (b : Nat)) ∧ S.length + 1 ≤ cap := by
  have hs := h.srow
  have hcl := fun g => hs.cells (g := g)
  rcases hs.2 with ⟨e, h0⟩ | ⟨g, cp, cur, e, hbg, hg, hnc, hcm, hcs, ht⟩
  · simp at h0
  · refine ⟨g, cp, e, ?_, by simpa using hnc⟩
    have := hcl g (by rw [e]; rfl) S.length (.int .u8 (b : Nat)) (by rw [rowB_cons, List.getElem?_append_right (by rw [rowB_len]; exact Nat.le_refl _), rowB_len]; simp)
    have ea : ∀ j, (⟨g, 0, none⟩ : Addr).add j = ⟨g, j, none⟩ := fun j => by unfold Addr.add; split <;> simp_all
    rwa [ea] at this
set_option maxHeartbeats 4000000 in
theorem next_any {M : Mc} (h : MM B K w0 w M) (c i : Nat) (hS : M.stack.length ≤ 512) (hT : M.l.length ≤ 1000000) :
    Calls Try.prog 30 #[.pointer (some ⟨K, 0, none⟩), .int .u8 (c : Nat), .int .i64 (i : Nat)] w (Does B K w0 (next M c i)) := by
  obtain ⟨sv, lv, h⟩ := h
  obtain ⟨st, S, fr, nm, left, cnt, T⟩ := M
  simp only at h hS hT
  cases S with
  | nil =>
    have c1 := h.c1
    obtain ⟨va, vc, hv⟩ := row_slice h.srow
    rw [hv] at c1
    have H := hidden h
    clear h hv
    go_enter Try.func30, Try.ntmps30
    go_wp2_with fail
    go_ret
    exact ⟨rfl, _, _, H.out⟩
  | cons b S =>
    obtain ⟨g, cap, rfl, hb, hcap⟩ := h.top
    have c1 := h.c1
    have hlen : S.length ≤ 511 := by simp at hS; omega
    have H := hidden h
    have HM : Hid (MM B K w0 w ⟨st, b :: S, fr, nm, left, cnt, T⟩) := ⟨_, _, h⟩
    clear hS
    have hk : ((S.length + 1 : Nat) : Int) - 1 = (S.length : Int) := by omega
    skip
    obtain ⟨m, hm⟩ : ∃ m, S.length = m := ⟨_, rfl⟩
    have Hm := hidden hm
    rw [hm] at c1 hb hlen hcap
    clear h hm
    have hkz : ¬ ((m : Int) < 0) := by omega
    have hkl : (m : Int) < (m : Int) + 1 := by omega
    by_cases hb91 : b = 91
    · have zb : ((b : Int) == 91) = true := by simp; omega
      by_cases h44 : c = 44
      · have z44 : ((c : Int) == 44) = true := by simp; omega
        have e1 : Hid (next ⟨st, b :: S, fr, nm, left, cnt, T⟩ c i = (0, one ⟨st, b :: S, fr, nm, left, cnt, T⟩ 3 i 0)) := by unfold Hid; simp [next, h44, hb91]
        have co := one_any HM.out 3 i 0 hT
        clear HM h44
        go_enter Try.func30, Try.ntmps30
        go_wp2_with fail
        refine co.mono ?_
        rintro e w2 ⟨rfl, h2⟩
        have H2 := hidden h2
        clear co h2
        go_wp2_with fail
        go_ret
        rw [e1.out]
        exact ⟨rfl, H2.out⟩
      have z44 : ((c : Int) == 44) = false := by simp; omega
      by_cases h93 : c = 93
      · have z93 : ((c : Int) == 93) = true := by simp; omega
        have e1 : Hid (next ⟨st, b :: S, fr, nm, left, cnt, T⟩ c i = (0, one ⟨st, S, fr, nm, left, cnt, T⟩ 2 i 5)) := by unfold Hid; simp [next, h93, hb91, one]
        have f1 := H.out.free 1
        have H3 := hidden H.out.shut
        rw [Hm.out] at H3
        have co := one_any (M := ⟨st, S, fr, nm, left, cnt, T⟩) ⟨_, _, H3.out⟩ 2 i 5 hT
        clear HM h44 h93
        go_enter Try.func30, Try.ntmps30
        go_wp2_with fail
        refine co.mono ?_
        rintro e w2 ⟨rfl, h2⟩
        have H2 := hidden h2
        clear co h2
        go_wp2_with fail
        go_ret
        rw [e1.out]
        exact ⟨rfl, H2.out⟩
      have z93 : ((c : Int) == 93) = false := by simp; omega
      have e1 : Hid (next ⟨st, b :: S, fr, nm, left, cnt, T⟩ c i = (5, ⟨st, b :: S, fr, nm, left, cnt, T⟩)) := by unfold Hid; simp [next, h44, h93, hb91]
      clear h44 h93 hb91
      cases z125 : ((c : Int) == 125) with
      | true =>
        go_enter Try.func30, Try.ntmps30
        go_wp2_with fail
        go_ret
        rw [e1.out]
        exact ⟨rfl, HM.out⟩
      | false =>
        go_enter Try.func30, Try.ntmps30
        go_wp2_with fail
        go_ret
        rw [e1.out]
        exact ⟨rfl, HM.out⟩
    · have zb : ((b : Int) == 91) = false := by simp; omega
      by_cases h44 : c = 44
      · have z44 : ((c : Int) == 44) = true := by simp; omega
        have e1 : Hid (next ⟨st, b :: S, fr, nm, left, cnt, T⟩ c i = (0, one ⟨st, b :: S, fr, nm, left, cnt, T⟩ 3 i 3)) := by unfold Hid; simp [next, h44, hb91]
        have co := one_any HM.out 3 i 3 hT
        clear HM h44
        go_enter Try.func30, Try.ntmps30
        go_wp2_with fail
        refine co.mono ?_
        rintro e w2 ⟨rfl, h2⟩
        have H2 := hidden h2
        clear co h2
        go_wp2_with fail
        go_ret
        rw [e1.out]
        exact ⟨rfl, H2.out⟩
      have z44 : ((c : Int) == 44) = false := by simp; omega
      by_cases h125 : c = 125
      · have z93 : ((c : Int) == 93) = false := by simp; omega
        have z125 : ((c : Int) == 125) = true := by simp; omega
        have e1 : Hid (next ⟨st, b :: S, fr, nm, left, cnt, T⟩ c i = (0, one ⟨st, S, fr, nm, left, cnt, T⟩ 2 i 5)) := by unfold Hid; simp [next, h125, hb91, one]
        have f1 := H.out.free 1
        have H3 := hidden H.out.shut
        rw [Hm.out] at H3
        have co := one_any (M := ⟨st, S, fr, nm, left, cnt, T⟩) ⟨_, _, H3.out⟩ 2 i 5 hT
        clear HM h44 h125
        go_enter Try.func30, Try.ntmps30
        go_wp2_with fail
        refine co.mono ?_
        rintro e w2 ⟨rfl, h2⟩
        have H2 := hidden h2
        clear co h2
        go_wp2_with fail
        go_ret
        rw [e1.out]
        exact ⟨rfl, H2.out⟩
      have z125 : ((c : Int) == 125) = false := by simp; omega
      have e1 : Hid (next ⟨st, b :: S, fr, nm, left, cnt, T⟩ c i = (5, ⟨st, b :: S, fr, nm, left, cnt, T⟩)) := by unfold Hid; simp [next, h44, h125, hb91]
      clear h44 h125
      cases z93 : ((c : Int) == 93) with
      | true =>
        go_enter Try.func30, Try.ntmps30
        go_wp2_with fail
        go_ret
        rw [e1.out]
        exact ⟨rfl, HM.out⟩
      | false =>
        go_enter Try.func30, Try.ntmps30
        go_wp2_with fail
        go_ret
        rw [e1.out]
        exact ⟨rfl, HM.out⟩
end
end Go.Proofs.PlatenJson
