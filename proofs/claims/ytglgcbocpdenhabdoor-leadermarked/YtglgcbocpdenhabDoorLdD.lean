/- The document's example of layer 6, as each statement asks it first: it holds. What the row's list of the marks gives the walks. -/
import Derived.Test.YtglgcbocpdenhabDoorLdC
import Derived.Test.YtglgcbocpdenhabDoorRows
import Derived.ProofKit
import Derived.Lay
import Derived.LaidOnce
import Derived.SevenTiedAt
import Derived.Lib.LaidU8
import Derived.OpenShut
import Derived.ChangeOld
namespace Go.Proofs.PlatenLeader
open Go.RowKit
set_option linter.unusedVariables false

theorem x_of (w : World) (hM : MK w) : Calls Tryd.prog 11 #[.string ⟨#[32, 32, 47, 47, 32, 97, 32, 98]⟩] w fun e w' => e = .returned (.tuple #[.string ⟨#[32, 32, 47, 47]⟩, .string ⟨#[32]⟩, .string ⟨#[97, 32, 98]⟩]) ∧ Below w.heap.size w w' := by
  have := of_any ⟨#[32, 32, 47, 47, 32, 97, 32, 98]⟩ w (by decide) hM
  rw [show hd (L ⟨#[32, 32, 47, 47, 32, 97, 32, 98]⟩) = [32, 32, 47, 47] by decide, show gp (L ⟨#[32, 32, 47, 47, 32, 97, 32, 98]⟩) = [32] by decide, show rs (L ⟨#[32, 32, 47, 47, 32, 97, 32, 98]⟩) = [97, 32, 98] by decide] at this
  exact this
theorem x_marked (w : World) : Calls Tryd.prog 13 #[.string ⟨#[32, 32, 47, 47]⟩] w fun e w' => e = .returned (.bool true) ∧ w' = w := by
  have := marked_any ⟨#[32, 32, 47, 47]⟩ w (by decide)
  rw [show bareB (L ⟨#[32, 32, 47, 47]⟩) = false by decide] at this
  exact this
theorem x_mark (w : World) (hM : MK w) : Calls Tryd.prog 9 #[.string ⟨#[35]⟩] w fun e w' => e = .returned (.bool true) ∧ w' = w := by
  have := mark_any [35] w hM
  rw [show mkB [35] = true by decide] at this
  exact this
set_option maxHeartbeats 1000000 in
theorem ex_any (w : World) (hM : MK w) :
    Calls Tryd.prog 8 #[] w fun e w' => e = .returned (.bool true) ∧ Below w.heap.size w w' := by
  have c1 := x_of w hM
  have HM := hidden hM
  clear hM
  go_enter Tryd.func8, Tryd.ntmps8
  go_wp2_with fail
  refine c1.mono ?_
  rintro e w1 ⟨rfl, hb⟩
  have c2 := x_marked w1
  have c3 := x_mark w1 (HM.out.below hb)
  have Hb := hidden hb
  clear hb c1
  go_wp2_with fail
  refine c2.mono ?_
  rintro e w2 ⟨rfl, rfl⟩
  go_wp2_with fail
  refine c3.mono ?_
  rintro e w3 ⟨rfl, rfl⟩
  go_wp2
  go_ret
  exact ⟨rfl, Hb.out⟩
end Go.Proofs.PlatenLeader

namespace Go.Proofs.YtglgcbocpdenhabDoor
open Go.ChangeShapes Go.WideShapes Go.ChangeAt Go.RowKit Go.Lib Go.Proofs.PlatenLeader

theorem nMarks : Tryd.prog.globalNamed "platen/leader.marks" = some 0 := by kernel_rfl
theorem yMarks : (Tryd.prog.globals[0]?).map (·.type) = some 27 := by kernel_rfl
theorem c9 : Tryd.prog.cellsOf 9 = 1 := by kernel_rfl
theorem c27 : Tryd.prog.cellsOf 27 = 8 := by kernel_rfl
theorem marks_str : (Rows.laid_platen_leader_marks : DataW Unit) = .agg [.lit (.string [47, 47]), .lit (.string [45, 45]), .lit (.string [59, 59]), .lit (.string [35]), .lit (.string [59]), .lit (.string [42]), .lit (.string [62]), .lit (.string [37])] := rfl

theorem tabs_of_reads {w : World} (h : VarReads Tryd.prog w "platen/leader.marks" (Rows.laid_platen_leader_marks : DataW Unit)) : MK w := by
  rw [marks_str] at h
  obtain ⟨g, t, cs, fuel, p, hg, hty, hvar, hd⟩ := h
  obtain rfl := Option.some.inj (nMarks.symm.trans hg)
  obtain rfl := Option.some.inj (yMarks.symm.trans hty)
  have el : ∀ i, i < 8 → ∃ b : List UInt8, [DataW.lit (H := Unit) (.string [47, 47]), .lit (.string [45, 45]), .lit (.string [59, 59]), .lit (.string [35]), .lit (.string [59]), .lit (.string [42]), .lit (.string [62]), .lit (.string [37])][i]? = some (.lit (.string b)) ∧ (cs.toList.drop i).take 1 = [.string ⟨b.toArray⟩] := by
    intro i hi
    obtain ⟨fuel', d, q, hdi, he⟩ := array_elem Tryd.underlying27 hd i hi
    rw [c9] at he
    obtain ⟨s, hs, hx, _⟩ := DataW.trod_string Tryd.underlying9 he
    have hx1 : d = .lit (.string s.data.toList) := (Prod.mk.inj hx).1
    subst hx1
    refine ⟨_, hdi, ?_⟩
    rw [Nat.mul_one] at hs
    rw [hs]
  have hlen : cs.toList.length = 8 := by
    cases fuel with
    | zero => simp [DataW.trod] at hd
    | succ fuel =>
      simp only [DataW.trod, Tryd.underlying27, c9, c27] at hd
      split at hd
      · rename_i hl; simpa using hl
      · cases hd
  have at1 : ∀ (i : Nat) (v : Value), (cs.toList.drop i).take 1 = [v] → cs.toList[i]? = some v := by
    intro i v h
    have := congrArg (·[0]?) h
    simpa [List.getElem?_take, List.getElem?_drop] using this
  have hcs : cs = mkCells := by
    apply Array.toList_inj.1
    apply List.ext_getElem?
    intro i
    by_cases hi : i < 8
    · obtain ⟨b, h1, h2⟩ := el i hi
      rw [at1 i _ h2]
      match i, hi with
      | 0, _ => simp at h1; subst h1; rfl
      | 1, _ => simp at h1; subst h1; rfl
      | 2, _ => simp at h1; subst h1; rfl
      | 3, _ => simp at h1; subst h1; rfl
      | 4, _ => simp at h1; subst h1; rfl
      | 5, _ => simp at h1; subst h1; rfl
      | 6, _ => simp at h1; subst h1; rfl
      | 7, _ => simp at h1; subst h1; rfl
    · rw [List.getElem?_eq_none (by omega), List.getElem?_eq_none (by show 8 ≤ i; omega)]
  subst hcs
  unfold World.var? at hvar
  rw [nMarks] at hvar
  simp only [Option.bind_some] at hvar
  split at hvar
  · rename_i cs t fr h
    have := Option.some.inj hvar
    subst this
    exact ⟨t, fr, h⟩
  · cases hvar

def laid : List (String × DataW Unit) := Rows.leaderMarksRow.laid

theorem tabs_of_laid {W : World} (hL : laidMetH Tryd.prog laid W) : MK W := by
  rw [MakeChecks.laidMetH_plain _ _ _ (by kernel_rfl)] at hL
  exact tabs_of_reads (Lib.laidMet.reads hL (.head _))

theorem own : ownKnob Tryd.prog.godebug = none := by kernel_rfl
theorem laidOut : laidOutB Tryd.prog = true := by kernel_rfl
theorem laid_world (os : Os) (args : Array Value) : laidMetH Tryd.prog laid ((World.laidAll Tryd.prog os laid).forCall (fun _ _ => 0) ⟨#[], args, []⟩).memory := by
  rw [MakeChecks.laidMetH_plain _ _ _ (by kernel_rfl)]
  exact laidMet_laidAll _ (by kernel_rfl) (by kernel_rfl)
end Go.Proofs.YtglgcbocpdenhabDoor
