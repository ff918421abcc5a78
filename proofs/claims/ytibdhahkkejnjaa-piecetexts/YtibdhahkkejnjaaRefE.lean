/- What the document's Insert comes to. -/
import Derived.Test.YtibdhahkkejnjaaRefD
namespace Go.Proofs.PlatenPiece
open Go Go.RowKit
set_option linter.unusedVariables false
set_option maxRecDepth 100000

set_option maxHeartbeats 2000000 in
theorem rinsert_bad (B M : Nat) (lv : Value) (cs : List Rc) (N : Int) (at' : Int) (v : Value) (w : World) (h : RTab B w M lv cs N) (hno : ¬ (0 ≤ at' ∧ at' ≤ (cs.length : Int))) :
    Calls Try.prog 45 #[.pointer (some ⟨M, 0, none⟩), .int .i64 at', v] w fun e w' => e = .returned (.int .i64 1) ∧ w' = w := by
  obtain ⟨va, vc, rfl, _, _⟩ := h.form
  have c0 := h.c0
  generalize cs.length = s at *
  clear h
  by_cases h1 : at' < 0
  · clear hno
    go_enter Try.func45, Try.ntmps45
    go_wp2
    go_ret
    exact ⟨rfl, rfl⟩
  · have h2 : (s : Int) < at' := by omega
    clear hno
    go_enter Try.func45, Try.ntmps45
    go_wp2
    go_ret
    exact ⟨rfl, rfl⟩

set_option maxHeartbeats 2000000 in
theorem rinsert_zero (B M : Nat) (lv : Value) (cs : List Rc) (N : Int) (at' : Nat) (va' : Option Addr) (vc' : Nat) (w : World) (h : RTab B w M lv cs N) (hat : at' ≤ cs.length) (hs : cs.length ≤ 65536) :
    Calls Try.prog 45 #[.pointer (some ⟨M, 0, none⟩), .int .i64 at', .slice va' 0 vc'] w fun e w' => e = .returned (.int .i64 0) ∧ w' = w := by
  obtain ⟨va, vc, rfl, _, _⟩ := h.form
  have c0 := h.c0
  generalize cs.length = s at *
  clear h
  have h1 : ¬ ((s : Int) < (at' : Int)) := by omega
  have h2 : ¬ (65536 < (s : Int)) := by omega
  go_enter Try.func45, Try.ntmps45
  go_wp2
  go_ret
  exact ⟨rfl, rfl⟩

/-- The cells that come. -/
def comeC (l : List Nat) (N : Int) (on : Bool) : List Rc := l.mapIdx fun i c => ⟨c, N + (i : Int) + 1, ((i : Int) == 0) && !on⟩
theorem comeC_snoc (l : List Nat) (N : Int) (on : Bool) (x : Nat) : comeC (l ++ [x]) N on = comeC l N on ++ [⟨x, N + (l.length : Int) + 1, ((l.length : Int) == 0) && !on⟩] := by simp [comeC, List.mapIdx_append]
theorem comeC_len (l : List Nat) (N : Int) (on : Bool) : (comeC l N on).length = l.length := by simp [comeC]
theorem comeC_c (l : List Nat) (N : Int) (on : Bool) : (comeC l N on).map (·.c) = l := by
  apply List.ext_getElem?
  intro k
  simp only [comeC, List.getElem?_map, List.getElem?_mapIdx]
  cases l[k]? <;> rfl

end Go.Proofs.PlatenPiece
