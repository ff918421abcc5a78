/- What the row's list of Go's tables gives the walks: the tables' cells. -/
import Derived.Test.YtgijplljpimbmaaGreatDoorRows
import Derived.Test.YtgijplljpimbmaaGreatDoorFgT
import Derived.Test.YtgijplljpimbmaaGreatDoorLaidB
import Derived.ProofKit
import Derived.PinnedBridge
import Derived.Lay
import Derived.LaidOnce
import Derived.SevenTiedAt
import Derived.Lib.LaidU8
namespace Go.Proofs.YtgijplljpimbmaaGreatDoor
open Go.ChangeShapes Go.WideShapes Go.ChangeAt Go.RowKit Go.Lib Go.Proofs.PlatenFigure

theorem nOpt : Tryz.prog.globalNamed "internal/strconv.optimize" = some 3 := by kernel_rfl
theorem nU10 : Tryz.prog.globalNamed "internal/strconv.uint64pow10" = some 4 := by kernel_rfl
theorem nInf : Tryz.prog.globalNamed "internal/strconv.float64info" = some 6 := by kernel_rfl
theorem nP10 : Tryz.prog.globalNamed "internal/strconv.pow10Tab" = some 10 := by kernel_rfl
theorem yOpt : (Tryz.prog.globals[3]?).map (·.type) = some 4 := by kernel_rfl
theorem yU10 : (Tryz.prog.globals[4]?).map (·.type) = some 102 := by kernel_rfl
theorem yInf : (Tryz.prog.globals[6]?).map (·.type) = some 114 := by kernel_rfl
theorem yP10 : (Tryz.prog.globals[10]?).map (·.type) = some 154 := by kernel_rfl
theorem c28 : Tryz.prog.cellsOf 28 = 1 := by kernel_rfl
theorem c4 : Tryz.prog.cellsOf 4 = 1 := by kernel_rfl
theorem c102 : Tryz.prog.cellsOf 102 = 20 := by kernel_rfl
theorem c105 : Tryz.prog.cellsOf 105 = 1 := by kernel_rfl
theorem c153 : Tryz.prog.cellsOf 153 = 2 := by kernel_rfl
theorem u10_eq : (Rows.laid_internal_strconv_uint64pow10 : DataW Unit) = tabData .u64 Lib.pow10Tab := by kernel_rfl

theorem p10_reads {w : World} (h : VarReads Tryz.prog w "internal/strconv.pow10Tab" Rows.laid_internal_strconv_pow10Tab) : P10 w := by
  intro i hi
  obtain ⟨g, t, cs, fuel, p, hg, hty, hvar, hd⟩ := h
  obtain rfl := Option.some.inj (nP10.symm.trans hg)
  obtain rfl := Option.some.inj (yP10.symm.trans hty)
  have hd' : DataW.trod (fun _ => ()) Tryz.prog w 0 (fun _ => true) false fuel 154 cs.toList = some (.agg (Go.Pinned.pow10Rows.map fun x => .agg [.lit (.int .u64 x.1), .lit (.int .u64 x.2)]), p) := hd
  obtain ⟨fuel', d, q, hdi, he⟩ := array_elem Tryz.underlying154 hd' i hi
  have hil : i < p10.length := by rw [p10_len]; exact hi
  rw [List.getElem?_map, show Go.Pinned.pow10Rows[i]? = some (p10[i]'hil) from List.getElem?_eq_getElem hil, Option.map_some, Option.some.injEq] at hdi
  have hx : p10[i]'hil = (pHi i, pLo i) := by
    unfold pHi pLo
    rw [List.getD_eq_getElem?_getD, List.getElem?_eq_getElem hil]
    rfl
  rw [hx] at hdi
  subst hdi
  rw [c153] at he
  have hcs := ints_of_struct (k := .u64) (zs := [(pHi i : Int), (pLo i : Int)]) Tryz.underlying153 (fun j f hj => by
    match j, hj with
    | 0, hj => simp at hj; subst hj; exact ⟨Tryz.underlying28, rfl, c28⟩
    | 1, hj => simp at hj; subst hj; exact ⟨Tryz.underlying28, rfl, c28⟩
    | j + 2, hj => simp at hj) (by rw [c153]; rfl) he
  have e0 := congrArg (·[0]?) hcs
  have e1 := congrArg (·[1]?) hcs
  simp only [List.getElem?_take, List.getElem?_drop] at e0 e1
  constructor
  · rw [World.var?_cell hg hvar (i * 2), ← Array.getElem?_toList]
    simpa using e0
  · rw [World.var?_cell hg hvar (i * 2 + 1), ← Array.getElem?_toList]
    simpa using e1
theorem opt_reads {w : World} (h : VarReads Tryz.prog w "internal/strconv.optimize" Rows.laid_internal_strconv_optimize) : w.cell? ⟨3, 0, none⟩ = some (.bool true) := by
  obtain ⟨g, t, cs, fuel, p, hg, hty, hvar, hd⟩ := h
  obtain rfl := Option.some.inj (nOpt.symm.trans hg)
  obtain rfl := Option.some.inj (yOpt.symm.trans hty)
  have hd' : DataW.trod (fun _ => ()) Tryz.prog w 0 (fun _ => true) false fuel 4 cs.toList = some (.lit (.bool true), p) := hd
  obtain ⟨b, hcs, hx⟩ := DataW.trod_bool Tryz.underlying4 hd'
  rw [World.var?_cell hg hvar 0, ← Array.getElem?_toList, hcs]
  have hx1 := congrArg Prod.fst hx
  simp at hx1
  simp [hx1]
theorem inf_reads {w : World} (h : VarReads Tryz.prog w "internal/strconv.float64info" Rows.laid_internal_strconv_float64info) : w.cell? ⟨6, 0, none⟩ = some (.int .u64 52) := by
  obtain ⟨g, t, cs, fuel, p, hg, hty, hvar, hd⟩ := h
  obtain rfl := Option.some.inj (nInf.symm.trans hg)
  obtain rfl := Option.some.inj (yInf.symm.trans hty)
  have hd' : DataW.trod (fun _ => ()) Tryz.prog w 0 (fun _ => true) false fuel 114 cs.toList = some (.agg [.lit (.int .u64 52), .lit (.int .u64 11), .lit (.int .i64 (-1023))], p) := hd
  obtain ⟨xs, n, rfl, hx, hl, hxl, hall⟩ := DataW.trod_struct Tryz.underlying114 hd'
  have hxs : xs.map (·.1) = [.lit (.int .u64 52), .lit (.int .u64 11), .lit (.int .i64 (-1023))] := by
    have := congrArg Prod.fst hx
    simpa using this.symm
  have h1 := hall 0 _ rfl
  cases xs with
  | nil => simp at hxs
  | cons b bs =>
    have h1' : DataW.trod (fun _ => ()) Tryz.prog w 0 (fun _ => true) false n 105 ((cs.toList.drop 0).take (Tryz.prog.cellsOf 105)) = some b := h1
    rw [c105] at h1'
    obtain ⟨z, hcz, rfl, _⟩ := DataW.trod_int Tryz.underlying105 h1'
    have h2 : cs.toList[0]? = some (.int .u64 z) := by
      have := congrArg (·[0]?) hcz
      simpa [List.getElem?_take, List.getElem?_drop] using this
    simp only [List.map_cons, List.cons.injEq, DataW.lit.injEq, Lit.int.injEq, true_and] at hxs
    obtain ⟨rfl, _⟩ := hxs
    rw [World.var?_cell hg hvar 0, ← Array.getElem?_toList]
    exact h2
theorem u10_reads {w : World} (h : VarReads Tryz.prog w "internal/strconv.uint64pow10" Rows.laid_internal_strconv_uint64pow10) : Lib.TabIs Tryz.prog w "internal/strconv.uint64pow10" .u64 Lib.pow10Tab := by
  rw [u10_eq] at h
  obtain ⟨g, t, cs, fuel, p, hg, hty, hvar, hd⟩ := h
  obtain rfl := Option.some.inj (nU10.symm.trans hg)
  obtain rfl := Option.some.inj (yU10.symm.trans hty)
  unfold Lib.TabIs
  rw [hvar, ← cells_of_tab Tryz.underlying102 Tryz.underlying28 c28 c102 hd]

def laid : List (String × DataW Unit) := Rows.figureLensRow.laid

theorem hp_size {w : World} (h : w.cell? ⟨10, 0, none⟩ = some (.int .u64 (pHi 0 : Nat))) : 11 ≤ w.heap.size := by
  rcases Nat.lt_or_ge 10 w.heap.size with h' | h'
  · omega
  · unfold World.cell? at h
    simp only at h
    rw [Array.getElem?_eq_none h'] at h
    cases h
theorem tabs_of_laid {W : World} (hL : laidMetH Tryz.prog laid W) : Lay W := by
  rw [MakeChecks.laidMetH_plain _ _ _ (by kernel_rfl)] at hL
  have h10 := p10_reads (Lib.laidMet.reads hL (.tail _ (.tail _ (.tail _ (.tail _ (.tail _ (.tail _ (.tail _ (.tail _ (.tail _ (.tail _ (.tail _ (.tail _ (.head _))))))))))))))
  have hi := info_reads (Lib.laidMet.reads hL (.tail _ (.tail _ (.tail _ (.head _)))))
  exact ⟨hp_size (h10 0 (by decide)).1, h10, u10_reads (Lib.laidMet.reads hL (.tail _ (.tail _ (.tail _ (.tail _ (.tail _ (.tail _ (.tail _ (.tail _ (.head _)))))))))), opt_reads (Lib.laidMet.reads hL (.tail _ (.tail _ (.tail _ (.tail _ (.head _)))))), inf_reads (Lib.laidMet.reads hL (.tail _ (.tail _ (.tail _ (.head _))))), er_reads (Lib.laidMet.reads hL (.tail _ (.tail _ (.tail _ (.tail _ (.tail _ (.tail _ (.tail _ (.tail _ (.tail _ (.head _))))))))))), f10_reads (Lib.laidMet.reads hL (.tail _ (.tail _ (.tail _ (.tail _ (.tail _ (.tail _ (.head _)))))))), hi.1, hi.2, pt_reads (Lib.laidMet.reads hL (.tail _ (.tail _ (.tail _ (.tail _ (.tail _ (.head _))))))), lc_reads (Lib.laidMet.reads hL (.tail _ (.tail _ (.tail _ (.tail _ (.tail _ (.tail _ (.tail _ (.tail _ (.tail _ (.tail _ (.tail _ (.head _)))))))))))))⟩

theorem own : ownKnob Tryz.prog.godebug = none := by kernel_rfl
theorem laidOut : laidOutB Tryz.prog = true := by kernel_rfl
theorem laid_world (os : Os) (args : Array Value) : laidMetH Tryz.prog laid ((World.laidAll Tryz.prog os laid).forCall (fun _ _ => 0) ⟨#[], args, []⟩).memory := by
  rw [MakeChecks.laidMetH_plain _ _ _ (by kernel_rfl)]
  exact laidMet_laidAll _ (by kernel_rfl) (by kernel_rfl)
end Go.Proofs.YtgijplljpimbmaaGreatDoor
