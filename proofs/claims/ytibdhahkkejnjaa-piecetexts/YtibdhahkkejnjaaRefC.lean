/- An append to a row of one's own, of many or none; what the document's Delete comes to. -/
import Derived.Test.YtibdhahkkejnjaaRefB
namespace Go.Proofs.PlatenPiece
open Go Go.RowKit
set_option linter.unusedVariables false
set_option maxRecDepth 100000

/-- A cell with which a piece begins from now on. -/
def setF (cs : List Rc) (i : Nat) : List Rc := cs.modify i fun x => ⟨x.c, x.n, true⟩
theorem setF_len (cs : List Rc) (i : Nat) : (setF cs i).length = cs.length := by simp [setF]
theorem setF_out (cs : List Rc) (i : Nat) (h : cs.length ≤ i) : setF cs i = cs := by unfold setF; exact List.modify_eq_self h
theorem setF_c (cs : List Rc) (i : Nat) : (setF cs i).map (·.c) = cs.map (·.c) := by
  apply List.ext_getElem?
  intro k
  simp only [setF, List.getElem?_map, List.getElem?_modify]
  cases cs[k]? with
  | none => rfl
  | some x => by_cases h : i = k <;> simp [h]
theorem rowC_setF : ∀ (cs : List Rc) (i : Nat), i < cs.length → (rowC cs).set (i * 3 + 2) (.bool true) = rowC (setF cs i)
  | [], i, h => by simp at h
  | x :: cs, 0, _ => by simp [rowC, setF, rcV]
  | x :: cs, i + 1, h => by
    have ih := rowC_setF cs i (by simpa using h)
    rw [show (i + 1) * 3 + 2 = i * 3 + 2 + 1 + 1 + 1 by omega]
    simp only [rowC, setF, rcV, List.flatMap_cons, List.cons_append, List.nil_append, List.set_cons_succ, List.modify_succ_cons] at ih ⊢
    rw [ih]

theorem RTab.first {B : Nat} {w : World} {M g vc : Nat} {cs : List Rc} {N : Int} (h : RTab B w M (.slice (some ⟨g, 0, none⟩) cs.length vc) cs N) (i : Nat) (hi : i < cs.length) :
    RTab B (w.setCell ⟨g, i * 3 + 2, none⟩ (.bool true)) M (.slice (some ⟨g, 0, none⟩) cs.length vc) (setF cs i) N ∧ w.grownBy (w.setCell ⟨g, i * 3 + 2, none⟩ (.bool true)) (some g) ∧ B ≤ g ∧ w.frozen? ⟨g, i * 3 + 2, none⟩ = false := by
  have hs := World.ownsRow.stored h.row (i * 3 + 2) (.bool true)
  have hgM : g ≠ M := fun e => h.apart (by rw [e]; rfl)
  refine ⟨⟨h.low, ?_, ?_⟩, hs.2, (h.row.lt g rfl).1, World.ownsRow.frozenAt h.row _⟩
  · rw [hs.2.block M h.lt (by simpa using Ne.symm hgM)]
    exact h.head
  · rw [setF_len, ← rowC_setF cs i hi]
    exact hs.1

/-- append to a row of one's own, of many or none, as a step of a region that draws. -/
theorem step_append_any {P : Program} {ops : Array Oper} {o : Oper} {a : Act} {w : World} {K : Act → World → Prop} {Q : Exit → Act → World → Prop} {E : Prop} (hgd : o.guard = none) (s x : Operand) (t : TypeId)
    (hop : o.op = .call { callee := .builtin .append, args := #[s, x], argTypes := #[t, t] })
    (base : Nat) (e : TypeId) (i : TypeInfo) (z : Value) (size bytes : Nat) (ht : P.underlying t = some (.slice e)) (hi : P.info? e = some i) (hz : i.zero = some z)
    (hsize : i.size = size) (hby : i.bytes = bytes) (hzs : z.cells.size = size) (hsz : 0 < size)
    (v : Value) (n : Nat) (xs : List Value) (hs : a.eval s = v) (hown : w.ownsRow base e size v n xs)
    (ad : Addr) (m c : Nat) (news : List Value) (hx : a.eval x = .slice (some ad) m c) (hl : news.length = m * size) (hnews : ∀ j u, news[j]? = some u → w.cell? (ad.add j) = some u) (h1 : ∀ u ∈ news, u.oneCell' = true)
    (h63 : n + m ≤ maxLen) (hbytes : (n + m) * bytes ≤ 140737488355328) (hbase : base ≤ w.heap.size)
    (hK : ∀ v' w', Hid (w'.ownsRow base e size v' (n + m) (xs ++ news)) → Hid (w.grownBy w' v.ownBlock) → K (a.put o.dst v') w') :
    if Region.wanted o (yielded ops a.tmps) = true then Oper.wp P o a w K Q else E := by
  have hw : Region.wanted o (yielded ops a.tmps) = true := by simp [Region.wanted, hgd]
  rw [if_pos hw]
  obtain ⟨v', w', hrun, h2, h3, _⟩ := run_append_own (P := P) w base t o.type e i z size bytes ht hi hz hsize hby hzs hsz v n xs hown ad m c news hl hnews h1 h63 hbytes hbase
  unfold Oper.wp
  simp [execOp, hop, resolve, invoke, builtin, hs, hx, hrun, Result.andThen]
  exact hK v' w' h2 h3

theorem ownsRow_base {w : World} {B B' : Nat} {e : TypeId} {s n : Nat} {v : Value} {xs : List Value} (h : w.ownsRow B e s v n xs) (hB : B' ≤ B) : w.ownsRow B' e s v n xs := by
  obtain ⟨h1, h2⟩ := h
  refine ⟨h1, ?_⟩
  rcases h2 with h2 | ⟨g, cap, cur, e, hg, h⟩
  · exact Or.inl h2
  · exact Or.inr ⟨g, cap, cur, e, by omega, h⟩
theorem own_any_slice {w : World} {B : Nat} {e : TypeId} {s n : Nat} {v : Value} {xs : List Value} (h : w.ownsRow B e s v n xs) : ∃ va cap, v = .slice va n cap := by
  rcases h.2 with ⟨e, h1⟩ | ⟨g, cap, cur, e, _⟩
  · exact ⟨none, 0, by rw [e, h1]⟩
  · exact ⟨_, _, e⟩
theorem rowC_one (cs : List Rc) : ∀ u ∈ rowC cs, u.oneCell' = true := by
  intro u hu
  simp only [rowC, rcV, List.mem_flatMap, List.mem_cons, List.not_mem_nil, or_false] at hu
  obtain ⟨x, _, rfl | rfl | rfl⟩ := hu <;> rfl

def rdel (cs : List Rc) (at' n : Nat) : List Rc := (setF (setF cs at') (at' + n)).take at' ++ (setF (setF cs at') (at' + n)).drop (at' + n)
def ROwn (M : Nat) (lv : Value) (k : Nat) : Prop := k = M ∨ lv.ownBlock = some k

/-- A piece begins there from now on, where there is such a cell. -/
theorem RTab.firstAt {B : Nat} {w : World} {M g vc s : Nat} {cs : List Rc} {N : Int} (h : RTab B w M (.slice (some ⟨g, 0, none⟩) s vc) cs N) (hs : cs.length = s) (i : Nat) (hi : i < s) :
    Hid (RTab B (w.setCell ⟨g, i * 3 + 2, none⟩ (.bool true)) M (.slice (some ⟨g, 0, none⟩) s vc) (setF cs i) N) ∧ Hid (Kept (ROwn M (.slice (some ⟨g, 0, none⟩) s vc)) w (w.setCell ⟨g, i * 3 + 2, none⟩ (.bool true))) ∧ w.cell? ⟨g, i * 3 + 2, none⟩ = some (.bool (cs[i]?.getD ⟨0, 0, false⟩).f) ∧ w.frozen? ⟨g, i * 3 + 2, none⟩ = false := by
  subst hs
  obtain ⟨a, b, c, d⟩ := h.first i hi
  obtain ⟨g', e, _, _, p⟩ := h.part i _ (List.getElem?_eq_getElem hi)
  obtain rfl : g = g' := by simpa using e
  refine ⟨a, kept_some b (Or.inr rfl), ?_, d⟩
  rw [List.getElem?_eq_getElem hi]
  exact p

theorem RTab.headCells {B : Nat} {w : World} {M g vc s : Nat} {cs : List Rc} {N : Int} (h : RTab B w M (.slice (some ⟨g, 0, none⟩) s vc) cs N) (k : Nat) : ∀ j u, (rowC (cs.take k))[j]? = some u → w.cell? ((⟨g, 0, none⟩ : Addr).add j) = some u := by
  intro j u hj
  rw [← rowC_take, List.getElem?_take] at hj
  split at hj
  · exact h.row.cells (g := g) rfl j u hj
  · cases hj
theorem RTab.tailCells {B : Nat} {w : World} {M g vc s : Nat} {cs : List Rc} {N : Int} (h : RTab B w M (.slice (some ⟨g, 0, none⟩) s vc) cs N) (k : Nat) (hk : k ≤ cs.length) : ∀ j u, (rowC (cs.drop k))[j]? = some u → w.cell? ((⟨g, k * 3, none⟩ : Addr).add j) = some u := by
  intro j u hj
  rw [← rowC_drop cs k hk, List.getElem?_drop] at hj
  have := h.row.cells (g := g) rfl _ u hj
  rw [Addr.add_lit] at this ⊢
  rw [Nat.zero_add] at this
  exact this
theorem rdel_fin {B b M m : Nat} {w w1 u w2 : World} {lv lv0 v1 v2 : Value} {cz X Y : List Rc} {N : Int} (hT : RTab B w1 M lv cz N) (hu : Rl w1 u) (hg : u.grownBy w2 v1.ownBlock) (hv1 : ∀ k, v1.ownBlock = some k → b ≤ k) (hM : M < b)
    (hr : w2.ownsRow b 83 3 v2 m (rowC X ++ rowC Y)) (hm : X.length + Y.length = m) (hBb : B ≤ b) (hK : Kept (ROwn M lv0) w w1) (hb : b = w.heap.size) :
    w2.cell? ⟨M, 0, none⟩ = some lv ∧ w2.frozen? ⟨M, 0, none⟩ = false ∧ Hid (RTab B (w2.setCell ⟨M, 0, none⟩ v2) M v2 (X ++ Y) N) ∧ Hid (Kept (ROwn M lv0) w (w2.setCell ⟨M, 0, none⟩ v2)) ∧ Hid (∀ k, v2.ownBlock = some k → w.heap.size ≤ k) := by
  have hg' := grown_trans hu hg
  have hr' : w2.ownsRow B 83 3 v2 (X ++ Y).length (rowC (X ++ Y)) := by
    rw [rowC_app, List.length_append, hm]
    exact ownsRow_base hr hBb
  obtain ⟨p, q, r⟩ := hT.set hg' (fun e => by have := hv1 M e; omega) hr'
  refine ⟨q, r, p, ?_, fun k hk => by have := (hr.lt k hk).1; omega⟩
  have k1 : Kept (fun k => v1.ownBlock = some k) w1 w2 := ⟨hg'.os, hg'.tape, hg'.output, hg'.size, fun k hk hne => hg'.block k hk (fun e => hne e.symm)⟩
  exact (hK.trans k1 (fun i hi ho => by have := hv1 i ho; omega)).trans (kept_some (grownBy_set w2 M 0 v2) (Or.inl rfl)) (fun _ _ h => h)

set_option maxHeartbeats 4000000 in
set_option maxRecDepth 100000 in
theorem rdelete_some (B M g vc : Nat) (cs : List Rc) (N : Int) (at' n : Nat) (w : World) (s : Nat) (h : RTab B w M (.slice (some ⟨g, 0, none⟩) s vc) cs N) (hs : cs.length = s) (hs2 : s ≤ 100000) (hin : at' + n ≤ s) (hB : B ≤ w.heap.size) (hvc : s ≤ vc) (hvm : vc ≤ 9223372036854775807) :
    Calls Try.prog 47 #[.pointer (some ⟨M, 0, none⟩), .int .i64 at', .int .i64 n] w fun e w' => e = .returned (.int .i64 0) ∧ ∃ lv', RTab B w' M lv' (rdel cs at' n) N ∧ Kept (ROwn M (.slice (some ⟨g, 0, none⟩) s vc)) w w' ∧ (∀ k, lv'.ownBlock = some k → w.heap.size ≤ k) := by
  obtain ⟨i0, hi, hz0, hz1, hz2⟩ := info_parts info59
  have ch := rhas B M _ cs N at' n w h (by omega)
  have hd : decide (0 ≤ (at' : Int) ∧ (at' : Int) ≤ (cs.length : Int) ∧ 0 ≤ (n : Int) ∧ (n : Int) ≤ (cs.length : Int) - (at' : Int)) = true := decide_eq_true (by omega)
  rw [hd] at ch
  have c0 := h.c0
  have HT := hidden h
  have Hs := hidden hs
  obtain ⟨E, hE⟩ : ∃ E : Nat, (at' : Int) + (n : Int) = (E : Int) := ⟨at' + n, by omega⟩
  have HE : Hid (at' + n = E) := by unfold Hid; omega
  have hE1 : at' ≤ E := by omega
  have hE2 : E ≤ s := by omega
  have hw1 : IntKind.i64.wrap (E : Int) = (E : Int) := IntWalk.i64_in _ (by omega)
  clear h hd hs
  rw [show rdel cs at' n = (setF (setF cs at') E).take at' ++ (setF (setF cs at') E).drop E by unfold rdel; rw [HE.out]]
  by_cases ha : at' < s
  · have haz : (at' : Int) < (s : Int) := by omega
    obtain ⟨HT1, HK1, x0, x1⟩ := HT.out.firstAt Hs.out at' ha
    by_cases he : E < s
    · have hez : (E : Int) < (s : Int) := by omega
      obtain ⟨HT2, HK2, _, _⟩ := HT1.out.firstAt (by rw [setF_len]; exact Hs.out) E he
      obtain ⟨_, _, y0, y1⟩ := HT.out.firstAt Hs.out E he
      by_cases hn0 : at' = E
      · subst hn0
        have HT9 := HT2
        have HK9 := hidden (HK1.out.trans HK2.out (fun _ _ h => h))
        have hl9 : Hid ((setF (setF cs at') at').length = s) := by first | exact Hs.out | (unfold Hid; rw [setF_len]; exact Hs.out) | (unfold Hid; rw [setF_len, setF_len]; exact Hs.out)
        generalize hcs : (setF (setF cs at') at') = cz at HT9 hl9 ⊢
        clear hcs
        have hMw := HT.out.lt
        obtain ⟨b, hb⟩ : ∃ b, w.heap.size = b := ⟨_, rfl⟩
        have Hb := hidden hb
        rw [hb] at hMw hB
        clear hb
        go_enter Try.func47, Try.ntmps47
        go_wp2_with fail
        refine ch.mono ?_
        rintro e w' ⟨rfl, rfl⟩
        go_wp2_with (at_builtin; refine wpList_append_own _ rfl _ _ 36 rfl b 83 i0 (.agg #[.int .u8 0, .int .i64 0, .bool false]) 3 24 Try.underlying36 hi hz0 hz1 hz2 rfl (by decide) _ _ _ rfl (World.ownsRow_nil _ _ _ _) ⟨g, 0, none⟩ at' vc (rowC (cz.take at')) rfl ?d0 (HT9.out.headCells at') (rowC_one _) ?d3 ?d4 ?d5 ?_)
        case d0 => rw [rowC_len, List.length_take, hl9.out, Nat.min_eq_left (by omega)]
        case d3 => unfold maxLen; omega
        case d4 => omega
        case d5 => rw [← Hb.out]; exact HK9.out.size
        intro v1 w1 hr1 hg1 _
        have hT1 := HT9.out.grown hg1
        have hK1 := hidden (HK9.out.trans (O' := ROwn M (.slice (some ⟨g, 0, none⟩) s vc)) (kept_none hg1) (fun _ _ h => h))
        obtain ⟨va1, vc1, rfl⟩ := own_any_slice hr1
        have HV1 : Hid (∀ k, Value.ownBlock (.slice va1 at' vc1) = some k → b ≤ k) := fun k hk => (hr1.lt k hk).1
        have HO1 : Hid (∀ u, w1.grownBy u none → u.ownsRow b 83 3 (.slice va1 at' vc1) at' (rowC (cz.take at'))) := fun u hu => hr1.kept hu (by cases Value.ownBlock (.slice va1 at' vc1) <;> simp)
        obtain ⟨A, hA, HA⟩ : ∃ A : Addr, (if vc = at' then some (⟨g, 0, none⟩ : Addr) else some ⟨g, at' * 3, none⟩) = some A ∧ Hid (∀ u, w1.grownBy u none → ∀ j x, (rowC (cz.drop at'))[j]? = some x → u.cell? (A.add j) = some x) := by
          by_cases hvE : vc = at'
          · refine ⟨⟨g, 0, none⟩, by simp [hvE], fun u hu j x hx => ?_⟩
            rw [List.drop_of_length_le (by rw [hl9.out]; omega)] at hx
            simp [rowC] at hx
          · exact ⟨⟨g, at' * 3, none⟩, by simp [hvE], fun u hu => (hT1.grown hu).tailCells at' (by rw [hl9.out]; exact hE2)⟩
        obtain rfl : (⟨g, at' * 3, none⟩ : Addr) = A := by rw [if_neg (by omega)] at hA; simpa using hA
        have d0 := hT1.c0
        have hw1b : b ≤ w1.heap.size := by rw [← Hb.out]; exact hK1.out.size
        have hEv : at' ≤ vc := by omega
        have HT1' := hidden hT1
        have HLd : Hid ((rowC (cz.drop at')).length = (s - at') * 3) := by unfold Hid; rw [rowC_len, List.length_drop, hl9.out]
        have HLs : Hid ((cz.take at').length + (cz.drop at').length = at' + (s - at')) := by unfold Hid; rw [List.length_take, List.length_drop, hl9.out]; omega
        clear hr1 hg1 hT1
        go_wp2_with (at_builtin; refine wpList_append_own _ rfl _ _ 36 rfl b 83 i0 (.agg #[.int .u8 0, .int .i64 0, .bool false]) 3 24 Try.underlying36 hi hz0 hz1 hz2 rfl (by decide) _ _ _ rfl (HO1.out _ (Rl.refl _)) _ (s - at') (vc - at') (rowC (cz.drop at')) ?e9 HLd.out (HA.out _ (Rl.refl _)) (rowC_one _) ?e3 ?e4 hw1b ?_)
        case e3 => unfold maxLen; omega
        case e4 => omega
        case e9 => rfl
        intro v2 w2 hr2 hg2 _
        obtain ⟨va2, vc2, rfl⟩ := own_any_slice hr2
        obtain ⟨q0, q1, q2, q3, q4⟩ := rdel_fin HT1'.out (Rl.refl _) hg2 HV1.out hMw hr2 (by have := HLs.out; omega) hB hK1.out Hb.out.symm
        clear hr2 hg2 d0
        go_wp2
        go_ret
        exact ⟨rfl, _, q2.out, q3.out, q4.out⟩
      · have hne : ¬ (E * 3 + 2 = at' * 3 + 2) := by omega
        have HT9 := HT2
        have HK9 := hidden (HK1.out.trans HK2.out (fun _ _ h => h))
        have hl9 : Hid ((setF (setF cs at') E).length = s) := by first | exact Hs.out | (unfold Hid; rw [setF_len]; exact Hs.out) | (unfold Hid; rw [setF_len, setF_len]; exact Hs.out)
        generalize hcs : (setF (setF cs at') E) = cz at HT9 hl9 ⊢
        clear hcs
        have hMw := HT.out.lt
        obtain ⟨b, hb⟩ : ∃ b, w.heap.size = b := ⟨_, rfl⟩
        have Hb := hidden hb
        rw [hb] at hMw hB
        clear hb
        go_enter Try.func47, Try.ntmps47
        go_wp2_with fail
        refine ch.mono ?_
        rintro e w' ⟨rfl, rfl⟩
        go_wp2_with (at_builtin; refine wpList_append_own _ rfl _ _ 36 rfl b 83 i0 (.agg #[.int .u8 0, .int .i64 0, .bool false]) 3 24 Try.underlying36 hi hz0 hz1 hz2 rfl (by decide) _ _ _ rfl (World.ownsRow_nil _ _ _ _) ⟨g, 0, none⟩ at' vc (rowC (cz.take at')) rfl ?d0 (HT9.out.headCells at') (rowC_one _) ?d3 ?d4 ?d5 ?_)
        case d0 => rw [rowC_len, List.length_take, hl9.out, Nat.min_eq_left (by omega)]
        case d3 => unfold maxLen; omega
        case d4 => omega
        case d5 => rw [← Hb.out]; exact HK9.out.size
        intro v1 w1 hr1 hg1 _
        have hT1 := HT9.out.grown hg1
        have hK1 := hidden (HK9.out.trans (O' := ROwn M (.slice (some ⟨g, 0, none⟩) s vc)) (kept_none hg1) (fun _ _ h => h))
        obtain ⟨va1, vc1, rfl⟩ := own_any_slice hr1
        have HV1 : Hid (∀ k, Value.ownBlock (.slice va1 at' vc1) = some k → b ≤ k) := fun k hk => (hr1.lt k hk).1
        have HO1 : Hid (∀ u, w1.grownBy u none → u.ownsRow b 83 3 (.slice va1 at' vc1) at' (rowC (cz.take at'))) := fun u hu => hr1.kept hu (by cases Value.ownBlock (.slice va1 at' vc1) <;> simp)
        obtain ⟨A, hA, HA⟩ : ∃ A : Addr, (if vc = E then some (⟨g, 0, none⟩ : Addr) else some ⟨g, E * 3, none⟩) = some A ∧ Hid (∀ u, w1.grownBy u none → ∀ j x, (rowC (cz.drop E))[j]? = some x → u.cell? (A.add j) = some x) := by
          by_cases hvE : vc = E
          · refine ⟨⟨g, 0, none⟩, by simp [hvE], fun u hu j x hx => ?_⟩
            rw [List.drop_of_length_le (by rw [hl9.out]; omega)] at hx
            simp [rowC] at hx
          · exact ⟨⟨g, E * 3, none⟩, by simp [hvE], fun u hu => (hT1.grown hu).tailCells E (by rw [hl9.out]; exact hE2)⟩
        obtain rfl : (⟨g, E * 3, none⟩ : Addr) = A := by rw [if_neg (by omega)] at hA; simpa using hA
        have d0 := hT1.c0
        have hw1b : b ≤ w1.heap.size := by rw [← Hb.out]; exact hK1.out.size
        have hEv : E ≤ vc := by omega
        have HT1' := hidden hT1
        have HLd : Hid ((rowC (cz.drop E)).length = (s - E) * 3) := by unfold Hid; rw [rowC_len, List.length_drop, hl9.out]
        have HLs : Hid ((cz.take at').length + (cz.drop E).length = at' + (s - E)) := by unfold Hid; rw [List.length_take, List.length_drop, hl9.out]; omega
        clear hr1 hg1 hT1
        go_wp2_with (at_builtin; refine wpList_append_own _ rfl _ _ 36 rfl b 83 i0 (.agg #[.int .u8 0, .int .i64 0, .bool false]) 3 24 Try.underlying36 hi hz0 hz1 hz2 rfl (by decide) _ _ _ rfl (HO1.out _ (Rl.refl _)) _ (s - E) (vc - E) (rowC (cz.drop E)) ?e9 HLd.out (HA.out _ (Rl.refl _)) (rowC_one _) ?e3 ?e4 hw1b ?_)
        case e3 => unfold maxLen; omega
        case e4 => omega
        case e9 => rfl
        intro v2 w2 hr2 hg2 _
        obtain ⟨va2, vc2, rfl⟩ := own_any_slice hr2
        obtain ⟨q0, q1, q2, q3, q4⟩ := rdel_fin HT1'.out (Rl.refl _) hg2 HV1.out hMw hr2 (by have := HLs.out; omega) hB hK1.out Hb.out.symm
        clear hr2 hg2 d0
        go_wp2
        go_ret
        exact ⟨rfl, _, q2.out, q3.out, q4.out⟩
    · have hez : ¬ ((E : Int) < (s : Int)) := by omega
      have HT9 := HT1
      have HK9 := HK1
      have hl9 : Hid ((setF cs at').length = s) := by first | exact Hs.out | (unfold Hid; rw [setF_len]; exact Hs.out) | (unfold Hid; rw [setF_len, setF_len]; exact Hs.out)
      rw [setF_out (setF cs at') E (by rw [setF_len, Hs.out]; omega)]
      generalize hcs : (setF cs at') = cz at HT9 hl9 ⊢
      clear hcs
      have hMw := HT.out.lt
      obtain ⟨b, hb⟩ : ∃ b, w.heap.size = b := ⟨_, rfl⟩
      have Hb := hidden hb
      rw [hb] at hMw hB
      clear hb
      go_enter Try.func47, Try.ntmps47
      go_wp2_with fail
      refine ch.mono ?_
      rintro e w' ⟨rfl, rfl⟩
      go_wp2_with (at_builtin; refine wpList_append_own _ rfl _ _ 36 rfl b 83 i0 (.agg #[.int .u8 0, .int .i64 0, .bool false]) 3 24 Try.underlying36 hi hz0 hz1 hz2 rfl (by decide) _ _ _ rfl (World.ownsRow_nil _ _ _ _) ⟨g, 0, none⟩ at' vc (rowC (cz.take at')) rfl ?d0 (HT9.out.headCells at') (rowC_one _) ?d3 ?d4 ?d5 ?_)
      case d0 => rw [rowC_len, List.length_take, hl9.out, Nat.min_eq_left (by omega)]
      case d3 => unfold maxLen; omega
      case d4 => omega
      case d5 => rw [← Hb.out]; exact HK9.out.size
      intro v1 w1 hr1 hg1 _
      have hT1 := HT9.out.grown hg1
      have hK1 := hidden (HK9.out.trans (O' := ROwn M (.slice (some ⟨g, 0, none⟩) s vc)) (kept_none hg1) (fun _ _ h => h))
      obtain ⟨va1, vc1, rfl⟩ := own_any_slice hr1
      have HV1 : Hid (∀ k, Value.ownBlock (.slice va1 at' vc1) = some k → b ≤ k) := fun k hk => (hr1.lt k hk).1
      have HO1 : Hid (∀ u, w1.grownBy u none → u.ownsRow b 83 3 (.slice va1 at' vc1) at' (rowC (cz.take at'))) := fun u hu => hr1.kept hu (by cases Value.ownBlock (.slice va1 at' vc1) <;> simp)
      obtain ⟨A, hA, HA⟩ : ∃ A : Addr, (if vc = E then some (⟨g, 0, none⟩ : Addr) else some ⟨g, E * 3, none⟩) = some A ∧ Hid (∀ u, w1.grownBy u none → ∀ j x, (rowC (cz.drop E))[j]? = some x → u.cell? (A.add j) = some x) := by
        by_cases hvE : vc = E
        · refine ⟨⟨g, 0, none⟩, by simp [hvE], fun u hu j x hx => ?_⟩
          rw [List.drop_of_length_le (by rw [hl9.out]; omega)] at hx
          simp [rowC] at hx
        · exact ⟨⟨g, E * 3, none⟩, by simp [hvE], fun u hu => (hT1.grown hu).tailCells E (by rw [hl9.out]; exact hE2)⟩
      have d0 := hT1.c0
      have hw1b : b ≤ w1.heap.size := by rw [← Hb.out]; exact hK1.out.size
      have hEv : E ≤ vc := by omega
      have HT1' := hidden hT1
      have HLd : Hid ((rowC (cz.drop E)).length = (s - E) * 3) := by unfold Hid; rw [rowC_len, List.length_drop, hl9.out]
      have HLs : Hid ((cz.take at').length + (cz.drop E).length = at' + (s - E)) := by unfold Hid; rw [List.length_take, List.length_drop, hl9.out]; omega
      clear hr1 hg1 hT1
      go_wp2_with (at_builtin; refine wpList_append_own _ rfl _ _ 36 rfl b 83 i0 (.agg #[.int .u8 0, .int .i64 0, .bool false]) 3 24 Try.underlying36 hi hz0 hz1 hz2 rfl (by decide) _ _ _ rfl (HO1.out _ (Rl.refl _)) _ (s - E) (vc - E) (rowC (cz.drop E)) ?e9 HLd.out (HA.out _ (Rl.refl _)) (rowC_one _) ?e3 ?e4 hw1b ?_)
      case e3 => unfold maxLen; omega
      case e4 => omega
      case e9 => rfl
      intro v2 w2 hr2 hg2 _
      obtain ⟨va2, vc2, rfl⟩ := own_any_slice hr2
      obtain ⟨q0, q1, q2, q3, q4⟩ := rdel_fin HT1'.out (Rl.refl _) hg2 HV1.out hMw hr2 (by have := HLs.out; omega) hB hK1.out Hb.out.symm
      clear hr2 hg2 d0
      go_wp2
      go_ret
      exact ⟨rfl, _, q2.out, q3.out, q4.out⟩
  · have haz : ¬ ((at' : Int) < (s : Int)) := by omega
    have hez : ¬ ((E : Int) < (s : Int)) := by omega
    have HT9 := HT
    have HK9 := hidden (Kept.refl (ROwn M (.slice (some ⟨g, 0, none⟩) s vc)) w)
    have hl9 : Hid ((cs).length = s) := by first | exact Hs.out | (unfold Hid; rw [setF_len]; exact Hs.out) | (unfold Hid; rw [setF_len, setF_len]; exact Hs.out)
    rw [setF_out cs at' (by rw [Hs.out]; omega), setF_out cs E (by rw [Hs.out]; omega)]
    generalize hcs : (cs) = cz at HT9 hl9 ⊢
    clear hcs
    have hMw := HT.out.lt
    obtain ⟨b, hb⟩ : ∃ b, w.heap.size = b := ⟨_, rfl⟩
    have Hb := hidden hb
    rw [hb] at hMw hB
    clear hb
    go_enter Try.func47, Try.ntmps47
    go_wp2_with fail
    refine ch.mono ?_
    rintro e w' ⟨rfl, rfl⟩
    go_wp2_with (at_builtin; refine wpList_append_own _ rfl _ _ 36 rfl b 83 i0 (.agg #[.int .u8 0, .int .i64 0, .bool false]) 3 24 Try.underlying36 hi hz0 hz1 hz2 rfl (by decide) _ _ _ rfl (World.ownsRow_nil _ _ _ _) ⟨g, 0, none⟩ at' vc (rowC (cz.take at')) rfl ?d0 (HT9.out.headCells at') (rowC_one _) ?d3 ?d4 ?d5 ?_)
    case d0 => rw [rowC_len, List.length_take, hl9.out, Nat.min_eq_left (by omega)]
    case d3 => unfold maxLen; omega
    case d4 => omega
    case d5 => rw [← Hb.out]; exact HK9.out.size
    intro v1 w1 hr1 hg1 _
    have hT1 := HT9.out.grown hg1
    have hK1 := hidden (HK9.out.trans (O' := ROwn M (.slice (some ⟨g, 0, none⟩) s vc)) (kept_none hg1) (fun _ _ h => h))
    obtain ⟨va1, vc1, rfl⟩ := own_any_slice hr1
    have HV1 : Hid (∀ k, Value.ownBlock (.slice va1 at' vc1) = some k → b ≤ k) := fun k hk => (hr1.lt k hk).1
    have HO1 : Hid (∀ u, w1.grownBy u none → u.ownsRow b 83 3 (.slice va1 at' vc1) at' (rowC (cz.take at'))) := fun u hu => hr1.kept hu (by cases Value.ownBlock (.slice va1 at' vc1) <;> simp)
    obtain ⟨A, hA, HA⟩ : ∃ A : Addr, (if vc = E then some (⟨g, 0, none⟩ : Addr) else some ⟨g, E * 3, none⟩) = some A ∧ Hid (∀ u, w1.grownBy u none → ∀ j x, (rowC (cz.drop E))[j]? = some x → u.cell? (A.add j) = some x) := by
      by_cases hvE : vc = E
      · refine ⟨⟨g, 0, none⟩, by simp [hvE], fun u hu j x hx => ?_⟩
        rw [List.drop_of_length_le (by rw [hl9.out]; omega)] at hx
        simp [rowC] at hx
      · exact ⟨⟨g, E * 3, none⟩, by simp [hvE], fun u hu => (hT1.grown hu).tailCells E (by rw [hl9.out]; exact hE2)⟩
    have d0 := hT1.c0
    have hw1b : b ≤ w1.heap.size := by rw [← Hb.out]; exact hK1.out.size
    have hEv : E ≤ vc := by omega
    have HT1' := hidden hT1
    have HLd : Hid ((rowC (cz.drop E)).length = (s - E) * 3) := by unfold Hid; rw [rowC_len, List.length_drop, hl9.out]
    have HLs : Hid ((cz.take at').length + (cz.drop E).length = at' + (s - E)) := by unfold Hid; rw [List.length_take, List.length_drop, hl9.out]; omega
    clear hr1 hg1 hT1
    go_wp2_with (at_builtin; refine wpList_append_own _ rfl _ _ 36 rfl b 83 i0 (.agg #[.int .u8 0, .int .i64 0, .bool false]) 3 24 Try.underlying36 hi hz0 hz1 hz2 rfl (by decide) _ _ _ rfl (HO1.out _ (Rl.refl _)) _ (s - E) (vc - E) (rowC (cz.drop E)) ?e9 HLd.out (HA.out _ (Rl.refl _)) (rowC_one _) ?e3 ?e4 hw1b ?_)
    case e3 => unfold maxLen; omega
    case e4 => omega
    case e9 => rfl
    intro v2 w2 hr2 hg2 _
    obtain ⟨va2, vc2, rfl⟩ := own_any_slice hr2
    obtain ⟨q0, q1, q2, q3, q4⟩ := rdel_fin HT1'.out (Rl.refl _) hg2 HV1.out hMw hr2 (by have := HLs.out; omega) hB hK1.out Hb.out.symm
    clear hr2 hg2 d0
    go_wp2
    go_ret
    exact ⟨rfl, _, q2.out, q3.out, q4.out⟩
end Go.Proofs.PlatenPiece
