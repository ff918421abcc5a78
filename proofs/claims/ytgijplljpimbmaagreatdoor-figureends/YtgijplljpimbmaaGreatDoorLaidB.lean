/- What the row's list of Go's tables gives the walks: the tables that are slices, and the error of a range. -/
import Derived.Test.YtgijplljpimbmaaGreatDoorRows
import Derived.Test.YtgijplljpimbmaaGreatDoorFgTb
import Derived.ProofKit
import Derived.PinnedBridge
import Derived.Lay
import Derived.LaidOnce
import Derived.SevenTiedAt
import Derived.Lib.LaidU8
namespace Go.Proofs.YtgijplljpimbmaaGreatDoor
open Go.ChangeShapes Go.WideShapes Go.ChangeAt Go.RowKit Go.Lib Go.Proofs.PlatenFigure
set_option linter.unusedVariables false

theorem bErr : Tryz.prog.globalNamed "strconv.ErrRange" = some 2 := by kernel_rfl
theorem bInf : Tryz.prog.globalNamed "internal/strconv.float64info" = some 6 := by kernel_rfl
theorem bPt : Tryz.prog.globalNamed "internal/strconv.powtab" = some 8 := by kernel_rfl
theorem bF10 : Tryz.prog.globalNamed "internal/strconv.float64pow10" = some 9 := by kernel_rfl
theorem bLc : Tryz.prog.globalNamed "internal/strconv.leftcheats" = some 11 := by kernel_rfl
theorem ybErr : (Tryz.prog.globals[2]?).map (·.type) = some 51 := by kernel_rfl
theorem ybInf : (Tryz.prog.globals[6]?).map (·.type) = some 114 := by kernel_rfl
theorem ybPt : (Tryz.prog.globals[8]?).map (·.type) = some 150 := by kernel_rfl
theorem ybF10 : (Tryz.prog.globals[9]?).map (·.type) = some 36 := by kernel_rfl
theorem ybLc : (Tryz.prog.globals[11]?).map (·.type) = some 160 := by kernel_rfl
theorem cb3 : Tryz.prog.cellsOf 3 = 1 := by kernel_rfl
theorem cb25 : Tryz.prog.cellsOf 25 = 1 := by kernel_rfl

theorem trod_float' {H : Type} {enc : TypeId × Value → H} {P : Program} {w : World} {base : Nat} {spare : Nat → Bool} {held : Bool} {fuel : Nat} {t : TypeId} {cs : List Value} {x : DataW H × List MemPlace} {k : FloatKind} (ht : P.underlying t = some (.float k)) (h : DataW.trod enc P w base spare held fuel t cs = some x) : ∃ n, cs = [.float k n] ∧ x = (.lit (.float k n), []) := by
  cases fuel with
  | zero => simp [DataW.trod] at h
  | succ n =>
    unfold DataW.trod at h
    rw [ht] at h
    split at h <;> simp_all
theorem trod_iface' {H : Type} {enc : TypeId × Value → H} {P : Program} {w : World} {base : Nat} {spare : Nat → Bool} {held : Bool} {fuel : Nat} {t : TypeId} {cs : List Value} {x : DataW H × List MemPlace} (ht : ∃ ms, P.underlying t = some (.interface ms)) (h : DataW.trod enc P w base spare held fuel t cs = some x) : cs = [.nilIface] ∧ x = (.nil, []) ∨ ∃ u v, cs = [.iface u v] := by
  obtain ⟨ms, ht⟩ := ht
  cases fuel with
  | zero => simp [DataW.trod] at h
  | succ n =>
    unfold DataW.trod at h
    rw [ht] at h
    split at h <;> simp_all
theorem slice_reads {P : Program} {w : World} {name : String} {g : Nat} {t e : TypeId} {els : List (DataW Unit)} (hn : P.globalNamed name = some g) (hy : (P.globals[g]?).map (·.type) = some t)
    (ht : P.underlying t = some (.slice e)) (h : VarReads P w name (.slice els [])) :
    ∃ a cap, els.length ≤ cap ∧ w.cell? ⟨g, 0, none⟩ = some (.slice (some a) els.length cap) ∧ ∀ i d, els[i]? = some d → ∃ cs n q, w.cells? 0 (a.add (i * P.cellsOf e)) (P.cellsOf e) = some cs ∧ DataW.trod (fun _ => ()) P w 0 (fun _ => true) false n e cs = some (d, q) := by
  obtain ⟨g', t', cs, fuel, p, hg, hty, hvar, hd⟩ := h
  obtain rfl := Option.some.inj (hn.symm.trans hg)
  obtain rfl := Option.some.inj (hy.symm.trans hty)
  rcases DataW.trod_slice ht hd with ⟨_, hx⟩ | ⟨a, len, cap, el, rs, m, rfl, hcs, hx, _, hlc, _, hel, helem, hsp, _⟩
  · cases hx
  have e0 := congrArg Prod.fst hx
  simp only [DataW.slice.injEq] at e0
  obtain ⟨eE, eR⟩ := e0
  have hlen : els.length = len := by
    have := congrArg List.length eE
    simp at this
    omega
  refine ⟨a, cap, by omega, ?_, fun i d hi => ?_⟩
  · rw [World.var?_cell hg hvar 0, ← Array.getElem?_toList, hcs, hlen]
    rfl
  · have hil : i < els.length := (List.getElem?_eq_some_iff.1 hi).1
    have h1 := helem i (by omega)
    obtain ⟨b, hb⟩ : ∃ b, el[i]? = some b := ⟨el[i]'(by omega), List.getElem?_eq_getElem (by omega)⟩
    rw [hb] at h1
    obtain ⟨ce, hce, hte⟩ := Option.bind_eq_some_iff.1 h1
    have hb1 : b.1 = d := by
      have := congrArg (·[i]?) eE
      simp [hb, hi] at this
      exact this.symm
    refine ⟨ce, m, b.2, hce, ?_⟩
    rw [hte, ← hb1]
theorem spot_none {w : World} {a : Addr} {v : Value} (h : w.cell? (a.add 0) = some v) : a.spot = none := by
  have := World.cell?_spot h
  simpa [Addr.add] using this
theorem add_at {a : Addr} (h : a.spot = none) (i : Nat) : a.add i = ⟨a.block, a.off + i, none⟩ := by
  obtain ⟨b, o, s⟩ := a
  simp only at h
  subst h
  unfold Addr.add
  split <;> simp_all
theorem f10_reads {w : World} (h : VarReads Tryz.prog w "internal/strconv.float64pow10" Rows.laid_internal_strconv_float64pow10) :
    ∃ b off cap, 23 ≤ cap ∧ w.cell? ⟨9, 0, none⟩ = some (.slice (some ⟨b, off, none⟩) 23 cap) ∧ ∀ i, i < 23 → w.cell? ⟨b, off + i, none⟩ = some (.float .f64 (t10.getD i 0)) := by
  have hl : (Rows.laid_internal_strconv_float64pow10 : DataW Unit) = .slice (t10.map fun x => .lit (.float .f64 x)) [] := by kernel_rfl
  rw [hl] at h
  obtain ⟨a, cap, h1, h2, h3⟩ := slice_reads bF10 ybF10 Tryz.underlying36 h
  have key : ∀ i, i < 23 → w.cell? (a.add i) = some (.float .f64 (t10.getD i 0)) := by
    intro i hi
    obtain ⟨cs, n, q, h4, h5⟩ := h3 i (.lit (.float .f64 (t10.getD i 0))) (by
      rw [List.getElem?_map, List.getD_eq_getElem?_getD, List.getElem?_eq_getElem (show i < t10.length from hi)]
      rfl)
    obtain ⟨z, rfl, hz⟩ := trod_float' Tryz.underlying25 h5
    have hz1 := congrArg Prod.fst hz
    simp only [DataW.lit.injEq, Lit.float.injEq, true_and] at hz1
    have h6 := (World.cells?_some h4).2.2 0 (by rw [cb25]; decide)
    rw [cb25, Nat.mul_one] at h6
    have ea : (a.add i).add 0 = a.add i := by
      unfold Addr.add; simp
    rw [ea] at h6
    rw [h6, hz1]
    rfl
  have hs := spot_none (key 0 (by decide))
  refine ⟨a.block, a.off, cap, by simpa [t10] using h1, ?_, fun i hi => ?_⟩
  · rw [h2]
    obtain ⟨b, o, s⟩ := a
    simp only at hs
    subst hs
    rfl
  · rw [← add_at hs]
    exact key i hi
theorem pt_reads {w : World} (h : VarReads Tryz.prog w "internal/strconv.powtab" Rows.laid_internal_strconv_powtab) :
    ∃ b off cap, 9 ≤ cap ∧ w.cell? ⟨8, 0, none⟩ = some (.slice (some ⟨b, off, none⟩) 9 cap) ∧ ∀ i, i < 9 → w.cell? ⟨b, off + i, none⟩ = some (.int .i64 (tp.getD i 0 : Nat)) := by
  have hl : (Rows.laid_internal_strconv_powtab : DataW Unit) = .slice (tp.map fun x => .lit (.int .i64 (x : Nat))) [] := by kernel_rfl
  rw [hl] at h
  obtain ⟨a, cap, h1, h2, h3⟩ := slice_reads bPt ybPt Tryz.underlying150 h
  have key : ∀ i, i < 9 → w.cell? (a.add i) = some (.int .i64 (tp.getD i 0 : Nat)) := by
    intro i hi
    obtain ⟨cs, n, q, h4, h5⟩ := h3 i (.lit (.int .i64 (tp.getD i 0 : Nat))) (by
      rw [List.getElem?_map, List.getD_eq_getElem?_getD, List.getElem?_eq_getElem (show i < tp.length from hi)]
      rfl)
    obtain ⟨z, rfl, hz, _⟩ := DataW.trod_int Tryz.underlying3 h5
    have hz1 := congrArg Prod.fst hz
    simp only [DataW.lit.injEq, Lit.int.injEq, true_and] at hz1
    have h6 := (World.cells?_some h4).2.2 0 (by rw [cb3]; decide)
    rw [cb3, Nat.mul_one] at h6
    have ea : (a.add i).add 0 = a.add i := by
      unfold Addr.add; simp
    rw [ea] at h6
    rw [h6, hz1]
    rfl
  have hs := spot_none (key 0 (by decide))
  refine ⟨a.block, a.off, cap, by simpa [tp] using h1, ?_, fun i hi => ?_⟩
  · rw [h2]
    obtain ⟨b, o, s⟩ := a
    simp only at hs
    subst hs
    rfl
  · rw [← add_at hs]
    exact key i hi
theorem cb158 : Tryz.prog.cellsOf 159 = 2 := by kernel_rfl
theorem cb9 : Tryz.prog.cellsOf 9 = 1 := by kernel_rfl
theorem cheat_len : Go.Pinned.cheatRows.length = 61 := by decide +kernel
theorem lc_reads {w : World} (h : VarReads Tryz.prog w "internal/strconv.leftcheats" Rows.laid_internal_strconv_leftcheats) :
    ∃ b off cap, 61 ≤ cap ∧ w.cell? ⟨11, 0, none⟩ = some (.slice (some ⟨b, off, none⟩) 61 cap) ∧ ∀ i, i < 61 → w.cell? ⟨b, off + i * 2, none⟩ = some (.int .i64 ((cheat i).1 : Nat)) ∧ w.cell? ⟨b, off + i * 2 + 1, none⟩ = some (.string ⟨(cheat i).2.toArray⟩) := by
  have hl : (Rows.laid_internal_strconv_leftcheats : DataW Unit) = .slice (Go.Pinned.cheatRows.map fun x => .agg [.lit (.int .i64 x.1), .lit (.string x.2)]) [] := rfl
  rw [hl] at h
  obtain ⟨a, cap, h1, h2, h3⟩ := slice_reads bLc ybLc Tryz.underlying160 h
  rw [List.length_map, cheat_len] at h1 h2
  have key : ∀ i, i < 61 → w.cell? (a.add (i * 2)) = some (.int .i64 ((cheat i).1 : Nat)) ∧ w.cell? ((a.add (i * 2)).add 1) = some (.string ⟨(cheat i).2.toArray⟩) := by
    intro i hi
    have hil : i < Go.Pinned.cheatRows.length := by rw [cheat_len]; exact hi
    obtain ⟨cs, n, q, h4, h5⟩ := h3 i (.agg [.lit (.int .i64 ((cheat i).1 : Nat)), .lit (.string (cheat i).2)]) (by
      unfold cheat
      rw [List.getElem?_map, List.getD_eq_getElem?_getD, List.getElem?_eq_getElem hil]
      rfl)
    obtain ⟨xs, n', rfl, hx, hlen, hxl, hall⟩ := DataW.trod_struct Tryz.underlying159 h5
    have hxs : xs.map (·.1) = [.lit (.int .i64 ((cheat i).1 : Nat)), .lit (.string (cheat i).2)] := by
      have := congrArg Prod.fst hx
      simpa using this.symm
    have g1 := hall 0 _ rfl
    have g2 := hall 1 _ rfl
    match xs, hxs with
    | [x0, x1], hxs =>
      simp only [List.map_cons, List.map_nil, List.cons.injEq, and_true] at hxs
      have g1' : DataW.trod (fun _ => ()) Tryz.prog w 0 (fun _ => true) false n' 3 ((cs.drop 0).take (Tryz.prog.cellsOf 3)) = some x0 := g1
      have g2' : DataW.trod (fun _ => ()) Tryz.prog w 0 (fun _ => true) false n' 9 ((cs.drop 1).take (Tryz.prog.cellsOf 9)) = some x1 := g2
      rw [cb3] at g1'
      rw [cb9] at g2'
      obtain ⟨z, hz, rfl, _⟩ := DataW.trod_int Tryz.underlying3 g1'
      obtain ⟨s, hs, rfl, _⟩ := DataW.trod_string Tryz.underlying9 g2'
      simp only [DataW.lit.injEq, Lit.int.injEq, Lit.string.injEq, true_and] at hxs
      obtain ⟨e1, e2⟩ := hxs
      have e3 := congrArg (·[0]?) hz
      have e4 := congrArg (·[0]?) hs
      simp only [List.getElem?_take, List.getElem?_drop] at e3 e4
      have hc := (World.cells?_some h4).2.2
      rw [cb158] at hc
      have c0 := hc 0 (by decide)
      have c1 := hc 1 (by decide)
      have ea : (a.add (i * 2)).add 0 = a.add (i * 2) := by
        unfold Addr.add; simp
      rw [ea] at c0
      refine ⟨?_, ?_⟩
      · rw [c0, ← e1]; simpa using e3
      · rw [c1, ← e2]; simpa using e4
  have hs := spot_none (a := a) (by
    have := (key 0 (by decide)).1
    rwa [Nat.zero_mul] at this)
  refine ⟨a.block, a.off, cap, h1, ?_, fun i hi => ?_⟩
  · rw [h2]
    obtain ⟨b, o, s⟩ := a
    simp only at hs
    subst hs
    rfl
  · have k := key i hi
    rw [add_at hs] at k
    exact ⟨k.1, by rw [← add_at (a := ⟨a.block, a.off + i * 2, none⟩) rfl]; exact k.2⟩
theorem info_reads {w : World} (h : VarReads Tryz.prog w "internal/strconv.float64info" Rows.laid_internal_strconv_float64info) : w.cell? ⟨6, 1, none⟩ = some (.int .u64 11) ∧ w.cell? ⟨6, 2, none⟩ = some (.int .i64 (-1023)) := by
  obtain ⟨g, t, cs, fuel, p, hg, hty, hvar, hd⟩ := h
  obtain rfl := Option.some.inj (bInf.symm.trans hg)
  obtain rfl := Option.some.inj (ybInf.symm.trans hty)
  have hd' : DataW.trod (fun _ => ()) Tryz.prog w 0 (fun _ => true) false fuel 114 cs.toList = some (.agg [.lit (.int .u64 52), .lit (.int .u64 11), .lit (.int .i64 (-1023))], p) := hd
  obtain ⟨xs, n, rfl, hx, hl, hxl, hall⟩ := DataW.trod_struct Tryz.underlying114 hd'
  have hxs : xs.map (·.1) = [.lit (.int .u64 52), .lit (.int .u64 11), .lit (.int .i64 (-1023))] := by
    have := congrArg Prod.fst hx
    simpa using this.symm
  have g1 := hall 1 _ rfl
  have g2 := hall 2 _ rfl
  match xs, hxs with
  | [x0, x1, x2], hxs =>
    simp only [List.map_cons, List.map_nil, List.cons.injEq, and_true] at hxs
    have g1' : DataW.trod (fun _ => ()) Tryz.prog w 0 (fun _ => true) false n 105 ((cs.toList.drop 1).take (Tryz.prog.cellsOf 105)) = some x1 := g1
    have g2' : DataW.trod (fun _ => ()) Tryz.prog w 0 (fun _ => true) false n 3 ((cs.toList.drop 2).take (Tryz.prog.cellsOf 3)) = some x2 := g2
    rw [show Tryz.prog.cellsOf 105 = 1 by kernel_rfl] at g1'
    rw [cb3] at g2'
    obtain ⟨z, hz, rfl, _⟩ := DataW.trod_int Tryz.underlying105 g1'
    obtain ⟨s, hs, rfl, _⟩ := DataW.trod_int Tryz.underlying3 g2'
    simp only [DataW.lit.injEq, Lit.int.injEq, true_and] at hxs
    obtain ⟨_, e1, e2⟩ := hxs
    have e3 := congrArg (·[0]?) hz
    have e4 := congrArg (·[0]?) hs
    simp only [List.getElem?_take, List.getElem?_drop] at e3 e4
    constructor
    · rw [World.var?_cell hg hvar 1, ← Array.getElem?_toList]
      rw [e1] at e3; simpa using e3
    · rw [World.var?_cell hg hvar 2, ← Array.getElem?_toList]
      rw [e2] at e4; simpa using e4
theorem er_reads {w : World} (h : VarReads Tryz.prog w "strconv.ErrRange" Rows.laid_strconv_ErrRange) : ∃ te pe, w.cell? ⟨2, 0, none⟩ = some (.iface te pe) := by
  obtain ⟨g, t, cs, fuel, p, hg, hty, hvar, hd⟩ := h
  obtain rfl := Option.some.inj (bErr.symm.trans hg)
  obtain rfl := Option.some.inj (ybErr.symm.trans hty)
  rcases trod_iface' ⟨_, Tryz.underlying51⟩ hd with ⟨_, hx⟩ | ⟨u, v, hcs⟩
  · have := congrArg Prod.fst hx
    cases this
  · refine ⟨u, v, ?_⟩
    rw [World.var?_cell hg hvar 0, ← Array.getElem?_toList, hcs]
    rfl
end Go.Proofs.YtgijplljpimbmaaGreatDoor
