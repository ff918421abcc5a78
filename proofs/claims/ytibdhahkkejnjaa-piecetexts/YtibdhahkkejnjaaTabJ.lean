/- What Slice comes to: a new row of the bytes from an offset on. -/
import Derived.Test.YtibdhahkkejnjaaTabC
import Derived.Test.YtibdhahkkejnjaaSum
namespace Go.Proofs.PlatenPiece
open Go Go.RowKit
set_option linter.unusedVariables false

def flat (ps : List Pc) : List Nat := ps.flatMap (·.l)
theorem flat_len (ps : List Pc) : (flat ps).length = lenSum ps := by
  induction ps with
  | nil => rfl
  | cons p ps ih => simp only [flat, List.flatMap_cons, List.length_append, lenSum] at ih ⊢; omega
theorem flat_app (ps qs : List Pc) : flat (ps ++ qs) = flat ps ++ flat qs := by simp [flat]
theorem flat_at {ps : List Pc} {i : Nat} {p : Pc} (h : ps[i]? = some p) : flat ps = flat (ps.take i) ++ (p.l ++ flat (ps.drop (i + 1))) := by
  have hlt : i < ps.length := (List.getElem?_eq_some_iff.1 h).1
  have hp : ps[i] = p := (List.getElem?_eq_some_iff.1 h).2
  have : ps.drop i = p :: ps.drop (i + 1) := by rw [List.drop_eq_getElem_cons hlt, hp]
  have e : flat (ps.drop i) = p.l ++ flat (ps.drop (i + 1)) := by rw [this]; simp [flat]
  rw [← e, ← flat_app, List.take_append_drop]

/-- Where the loop stands behind i pieces: how far the offset still is, how many bytes are there. -/
def atOf (a pre : Nat) : Nat := a - pre
def doneOf (a n pre : Nat) : Nat := min n (pre - a)

/-- The next bytes that are copied. -/
theorem next_bytes {ps : List Pc} {i a n : Nat} {p : Pc} (h : ps[i]? = some p) (hA : atOf a (lenSum (ps.take i)) < p.l.length) (hD : doneOf a n (lenSum (ps.take i)) < n) :
    ((flat ps).drop a).take (doneOf a n (lenSum (ps.take i)) + min (p.l.length - atOf a (lenSum (ps.take i))) (n - doneOf a n (lenSum (ps.take i)))) =
      ((flat ps).drop a).take (doneOf a n (lenSum (ps.take i))) ++ (p.l.drop (atOf a (lenSum (ps.take i)))).take (min (p.l.length - atOf a (lenSum (ps.take i))) (n - doneOf a n (lenSum (ps.take i)))) := by
  have hl := flat_len (ps.take i)
  have hf := flat_at h
  generalize lenSum (ps.take i) = pre at *
  have e : a + doneOf a n pre = pre + atOf a pre := by unfold doneOf atOf at *; omega
  generalize doneOf a n pre = D at *
  generalize atOf a pre = A at *
  rw [List.take_add, List.drop_drop, e]
  congr 1
  rw [hf, List.drop_append, List.drop_of_length_le (show (flat (ps.take i)).length ≤ pre + A by omega), List.nil_append, hl, show pre + A - pre = A by omega, List.drop_append_of_le_length (by omega), List.take_append_of_le_length (by rw [List.length_drop]; omega)]

theorem done_next {a n pre L : Nat} (hA : atOf a pre < L) (hD : doneOf a n pre < n) : doneOf a n pre + min (L - atOf a pre) (n - doneOf a n pre) = doneOf a n (pre + L) ∧ atOf a (pre + L) = 0 := by
  unfold doneOf atOf at *; omega
theorem at_next {a n pre L : Nat} (hL : 0 < L) (hA : ¬ atOf a pre < L) (hD : doneOf a n pre < n) : doneOf a n pre = doneOf a n (pre + L) ∧ atOf a (pre + L) = atOf a pre - L := by
  unfold doneOf atOf at *; omega

theorem splice_take {α : Type} (cur cs : List α) (o : Nat) (h : o ≤ cur.length) : (splice cur o cs).take (o + cs.length) = cur.take o ++ cs := by
  unfold splice
  rw [← List.append_assoc, List.take_append_of_le_length (by simp; omega), List.take_of_length_le (by simp; omega)]

theorem grownBy_trans_some {a b c : World} {g : Nat} (h : a.grownBy b none) (k : b.grownBy c (some g)) (hg : a.heap.size ≤ g) : a.grownBy c none :=
  ⟨k.os.trans h.os, k.tape.trans h.tape, k.output.trans h.output, Nat.le_trans h.size k.size, fun i hi hne => (k.block i (Nat.lt_of_lt_of_le hi h.size) (by simp; omega)).trans (h.block i hi hne)⟩

set_option maxHeartbeats 4000000 in
set_option maxRecDepth 100000 in
theorem slice_tab (B T : Nat) (pv : Value) (ps : List Pc) (s a0 : Int) (a n : Nat) (w : World) (h : Tab B w T pv ps s a0) (hN : ps.length ≤ 100000) (hs : s = lenSum ps) (hS : lenSum ps ≤ 65536) (han : a + n ≤ lenSum ps) :
    Calls Try.prog 48 #[.pointer (some ⟨T, 0, none⟩), .int .i64 a, .int .i64 n] w fun e w' => e = .returned (.tuple #[.slice (some ⟨w.heap.size, 0, none⟩) n n, .bool true]) ∧
      w'.heap[w.heap.size]? = some (.cells (bytesV (((flat ps).drop a).take n)).toArray 5 (0, 0)) ∧ w.grownBy w' none := by
  obtain ⟨i0, hi, hz0, hz1, hz2⟩ := info_parts info5
  have c1 := has_of (.pointer (some ⟨T, 0, none⟩)) s a n w (len_tab B T pv ps s a0 w h) (by omega) (by omega)
  have hyes : decide (0 ≤ (a : Int) ∧ (a : Int) ≤ s ∧ 0 ≤ (n : Int) ∧ (n : Int) ≤ s - a) = true := by simp; omega
  rw [hyes] at c1
  have HT := hidden h
  have hTlt := h.lt
  have hf : ∃ va vc, pv = .slice va ps.length vc := by
    rcases h.row.2 with ⟨e, h0⟩ | ⟨g, cap, cur, e, _⟩
    · exact ⟨_, _, by rw [e, h0]⟩
    · exact ⟨_, _, e⟩
  obtain ⟨va, vc, rfl⟩ := hf
  clear h hyes hs
  go_enter Try.func48, Try.ntmps48
  go_wp2_with fail
  refine c1.mono ?_
  rintro e w0 ⟨rfl, rfl⟩
  clear c1
  go_wp2_with (at_make; refine wpList_make_full _ rfl _ _ 22 rfl w0.heap.size 5 i0 (.int .u8 0) 1 Try.underlying22 hi hz0 hz1 _ _ _ _ n rfl rfl rfl rfl ?c1 ?c2 ?c3 ?_)
  case c1 => rw [hz2]; omega
  case c2 => unfold maxLen; omega
  case c3 => exact Nat.le_refl _
  intro w1 hown hgr
  obtain ⟨_, hown⟩ := hown
  rcases hown with ⟨h0, _⟩ | ⟨g, cap, cur, hv, _, hh, _, _, hcs, _⟩
  · cases h0
  simp only [Value.slice.injEq, Option.some.injEq, Addr.mk.injEq, and_true, true_and] at hv
  obtain ⟨rfl, rfl⟩ := hv
  have hcl : cur.toList.length = n := by simp [hcs]
  have Hh : Hid (w1.heap[w0.heap.size]? = some (.cells cur.toList.toArray 5 (0, 0))) := by unfold Hid; rw [Array.toArray_toList]; exact hh
  have Hgr := hidden hgr
  have hT0 : w1.cell? ⟨T, 0, none⟩ = some (.slice va ps.length vc) := hgr.cell HT.out.c0 (by simp)
  clear hh hgr hcs
  obtain ⟨cur0, hcur0⟩ : ∃ c, cur.toList = c := ⟨_, rfl⟩
  rw [hcur0] at hcl Hh
  clear hcur0
  have hall : lenSum (ps.take ps.length) = lenSum ps := by rw [List.take_length]
  have Hend : Hid (∀ (c : List Value) (wr : World) (D : Nat), D = n → c.length = n → c.take D = bytesV (((flat ps).drop a).take D) → wr.heap[w0.heap.size]? = some (.cells c.toArray 5 (0, 0)) → w1.grownBy wr (some w0.heap.size) →
      wr.heap[w0.heap.size]? = some (.cells (bytesV (((flat ps).drop a).take n)).toArray 5 (0, 0)) ∧ w0.grownBy wr none) := fun c wr D hD hc ht hr hg => by
    subst hD
    rw [← ht, List.take_of_length_le (by omega)]
    exact ⟨hr, grownBy_trans_some Hgr.out hg (Nat.le_refl _)⟩
  go_wp2_with fail
  go_loopw [1, 9, 27] (fun x d i wr => ∃ (k : Nat) (c : List Value), k ≤ ps.length ∧ i = .int .i64 (k : Nat) ∧ x = .int .i64 (atOf a (lenSum (ps.take k)) : Nat) ∧ d = .int .i64 (doneOf a n (lenSum (ps.take k)) : Nat) ∧ c.length = n ∧
      c.take (doneOf a n (lenSum (ps.take k))) = bytesV (((flat ps).drop a).take (doneOf a n (lenSum (ps.take k)))) ∧ wr.heap[w0.heap.size]? = some (.cells c.toArray 5 (0, 0)) ∧ w1.grownBy wr (some w0.heap.size)) (fun _ _ i _ => ps.length - (intOf i).toNat)
  case atStart => exact ⟨0, cur0, Nat.zero_le _, rfl, by simp [atOf, lenSum], by simp [doneOf, lenSum], hcl, by simp [doneOf, lenSum, bytesV], Hh.out, grownBy_refl _ _⟩
  case round =>
    obtain ⟨k, c, hk, rfl, rfl, rfl, hcn, hct, hrow, hgw⟩ := hrel
    have Hrow := hidden hrow
    have Hgw := hidden hgw
    have Hct := hidden hct
    clear hrow hgw hct
    have hpre := lenSum_take ps k
    by_cases hlt : k < ps.length
    · obtain ⟨p, hp⟩ : ∃ p, ps[k]? = some p := ⟨ps[k], List.getElem?_eq_getElem hlt⟩
      obtain ⟨g, gcap, he, hgc, hgT, hgw2, _⟩ := HT.out.form k hlt
      simp only [Value.slice.injEq, true_and] at he
      obtain ⟨rfl, rfl⟩ := he
      obtain ⟨hx0, hx1⟩ := HT.out.part k p hp
      have hgood := HT.out.good p (List.mem_of_getElem? hp)
      have hL0 := hgood.2
      obtain ⟨q, qc, hpv, hqc, hqm, hqs⟩ := hgood.src
      have hsu := lenSum_succ hp
      have hgr0 : w0.grownBy wr none := grownBy_trans_some Hgr.out Hgw.out (Nat.le_refl _)
      have y0 : wr.cell? ⟨g, k * 2, none⟩ = some p.v := hgr0.cell hx0 (by simp)
      have y1 : wr.cell? ⟨g, k * 2 + 1, none⟩ = some (.int .i64 p.k) := hgr0.cell hx1 (by simp)
      have Hqs : Hid (∀ j u, (bytesV p.l)[j]? = some u → wr.cell? ((⟨q, 0, none⟩ : Addr).add j) = some u) := fun j u hj => hgr0.cell (hqs j u hj) (by simp)
      have hpl : p.l.length ≤ 65536 := by have := lenSum_mem (List.mem_of_getElem? hp); omega
      rw [hpv] at y0
      have Hdn : Hid (doneOf a n (lenSum (ps.take k)) < n → atOf a (lenSum (ps.take k)) < p.l.length → doneOf a n (lenSum (ps.take k)) + min (p.l.length - atOf a (lenSum (ps.take k))) (n - doneOf a n (lenSum (ps.take k))) = doneOf a n (lenSum (ps.take (k + 1))) ∧ atOf a (lenSum (ps.take (k + 1))) = 0) := fun h1 h2 => by rw [hsu]; exact done_next h2 h1
      have Han : Hid (doneOf a n (lenSum (ps.take k)) < n → ¬ atOf a (lenSum (ps.take k)) < p.l.length → doneOf a n (lenSum (ps.take k)) = doneOf a n (lenSum (ps.take (k + 1))) ∧ atOf a (lenSum (ps.take (k + 1))) = atOf a (lenSum (ps.take k)) - p.l.length) := fun h1 h2 => by rw [hsu]; exact at_next hL0 h2 h1
      have Hnb : Hid (doneOf a n (lenSum (ps.take k)) < n → atOf a (lenSum (ps.take k)) < p.l.length → _) := fun h1 h2 => next_bytes (a := a) (n := n) hp h2 h1
      have hDn : doneOf a n (lenSum (ps.take k)) ≤ n := by unfold doneOf; omega
      have hAa : atOf a (lenSum (ps.take k)) ≤ a := by unfold atOf; omega
      clear hx0 hx1 hgood hqs hsu hgr0 hpv
      generalize doneOf a n (lenSum (ps.take k)) = D at *
      generalize atOf a (lenSum (ps.take k)) = A at *
      generalize p.k = pk at *
      obtain ⟨L, hL⟩ : ∃ L, p.l.length = L := ⟨_, rfl⟩
      rw [hL] at hL0 y0 hqc hpl Hdn Han Hnb
      have HLen := hidden hL
      clear hL
      have Hal : Hid (∀ o, (wr.alloc o).heap[w0.heap.size]? = some (.cells c.toArray 5 (0, 0)) ∧ w1.grownBy (wr.alloc o) (some w0.heap.size)) := fun o =>
        ⟨by rw [Below.heap_alloc wr o _ (Array.getElem?_eq_some_iff.1 Hrow.out).1]; exact Hrow.out, ⟨Hgw.out.os, Hgw.out.tape, Hgw.out.output, by have := Hgw.out.size; simp; omega, fun j hj hne => (Below.heap_alloc wr o j (Nat.lt_of_lt_of_le hj Hgw.out.size)).trans (Hgw.out.block j hj hne)⟩⟩
      by_cases hDe : D = n
      · subst hDe
        have Hfin : Hid (∀ o, _) := fun o => Hend.out c (wr.alloc o) D rfl hcn Hct.out (Hal.out o).1 (Hal.out o).2
        have hb : ((D : Int) == (D : Int)) = true := by simp
        clear Hdn Han Hnb hcn
        go_wp2
        go_ret2
        exact ⟨rfl, Hfin.out _⟩
      · have hb : ((D : Int) == (n : Int)) = false := by simp; omega
        have hDl : D < n := by omega
        by_cases hAL : A < L
        · have hz : ¬ ((A : Int) ≥ (L : Int)) := by omega
          obtain ⟨e1, e2⟩ := Hdn.out hDl hAL
          have e3 := Hnb.out hDl hAL
          obtain ⟨m, hm⟩ : ∃ m, min (L - A) (n - D) = m := ⟨_, rfl⟩
          rw [hm] at e1 e3
          have hmD : D + m ≤ n := by omega
          have hmL : A + m ≤ L := by omega
          obtain ⟨cs, hcs⟩ : ∃ cs, bytesV ((p.l.drop A).take m) = cs := ⟨_, rfl⟩
          have hcsl : cs.length = m := by rw [← hcs, bytesV_len, List.length_take, List.length_drop, HLen.out]; omega
          have Hn1 : Hid (cs.length = Nat.min (L - A) (n - D) * 1) := by unfold Hid; rw [hcsl, ← hm, Nat.mul_one]
          have Hsrc : Hid (∀ o j v, cs[j]? = some v → (wr.alloc o).cell? ((⟨q, A, none⟩ : Addr).add j) = some v) := fun o j v hj => by
            have hj2 : (bytesV p.l)[A + j]? = some v := by
              rw [← hcs] at hj
              have hjm : j < m := by
                have := (List.getElem?_eq_some_iff.1 hj).1
                rw [hcs, hcsl] at this
                exact this
              unfold bytesV at hj ⊢
              rw [List.getElem?_map, List.getElem?_take, if_pos hjm, List.getElem?_drop] at hj
              rw [List.getElem?_map]
              exact hj
            have := Hqs.out (A + j) v hj2
            rw [Addr.add_lit] at this ⊢
            rw [Nat.zero_add] at this
            exact (grownBy_alloc wr o).cell this (by simp)
          have Hfit : Hid (D + cs.length ≤ c.length) := by unfold Hid; omega
          have Hone : Hid (∀ v ∈ cs, v.oneCell' = true) := by unfold Hid; rw [← hcs]; exact bytesV_one _
          have Htk : Hid ((splice c D cs).take (D + m) = bytesV (((flat ps).drop a).take (D + m)) ∧ (splice c D cs).length = n) := by
            refine ⟨?_, ?_⟩
            · rw [← hcsl, splice_take c cs D (by omega), hcsl, e3, bytesV_app, hcs, Hct.out]
            · rw [length_splice _ _ _ (by omega)]; exact hcn
          have hmin : Nat.min (L - A) (n - D) = m := hm
          have hw1 : IntKind.i64.wrap ((D : Int) + (m : Int)) = (D : Int) + (m : Int) := IntWalk.i64_in _ (by omega)
          have He1 := hidden e1
          have He2 := hidden e2
          have zD : (D : Int) ≤ (n : Int) := by omega
          have zA : (A : Int) ≤ (L : Int) := by omega
          have zc : (A : Int) ≤ (qc : Int) := by omega
          have znD : ¬ n = D := by omega
          have znA : ¬ qc = A := by omega
          have zcq : L ≤ qc := hqc
          have zAc : A ≤ qc := by omega
          clear Hdn Han Hnb hcs e1 e2 e3 hm Hct Hqs hcsl hcn
          have hX : ∀ o2, ((wr.alloc (.cells #[.slice (some ⟨q, 0, none⟩) L qc, .int .i64 pk] 81)).alloc o2).heap.size = wr.heap.size + 2 := fun o2 => by simp
          have x0 : (wr.alloc (.cells #[.slice (some ⟨q, 0, none⟩) L qc, .int .i64 pk] 81)).cell? ⟨wr.heap.size, 0, none⟩ = some (.slice (some ⟨q, 0, none⟩) L qc) := by simp
          clear hX
          have hw0r : w0.heap.size < wr.heap.size := (Array.getElem?_eq_some_iff.1 Hrow.out).1
          have hw0n : ¬ wr.heap.size = w0.heap.size := by omega
          go_wp2_with fail
          go_region_held3 (fun u => u.cell? ⟨wr.heap.size, 0, none⟩ = some (.slice (some ⟨q, 0, none⟩) L qc)) (first | exact x0 | assumption | (simp; done) | exact Hg3.out.cell x0 (by simp; omega)) ((refine step_copy_k rfl _ _ 22 22 rfl 5 1 Try.underlying22 size5 (by decide) _ _ _ _ _ _ rfl rfl w0.heap.size D c 5 (Hal.out _).1 cs Hn1.out (fun _ => ⟨rfl, _, rfl, Hsrc.out _⟩) Hfit.out Hone.out ?_; intro w3 Hrow3 Hg3))
          have Hg4 : Hid (w1.grownBy w3 (some w0.heap.size)) := by
            have x := (Hal.out (.cells #[.slice (some ⟨q, 0, none⟩) L qc, .int .i64 pk] 81)).2
            have y := Hg3.out
            exact ⟨y.os.trans x.os, y.tape.trans x.tape, y.output.trans x.output, Nat.le_trans x.size y.size, fun j hj hne => (y.block j (Nat.lt_of_lt_of_le hj x.size) hne).trans (x.block j hj hne)⟩
          clear Hg3
          go_wp2
          go_roundw
          case rel => exact ⟨k + 1, splice c D cs, by omega, by go_num, by rw [He2.out]; rfl, by rw [← He1.out]; go_num, Htk.out.2, by rw [← He1.out]; exact Htk.out.1, Hrow3.out, Hg4.out⟩
          case measure => simp [intOf]; omega
        · have hz : ((A : Int) ≥ (L : Int)) := by omega
          obtain ⟨e1, e2⟩ := Han.out hDl hAL
          have He1 := hidden e1
          have He2 := hidden e2
          clear Hdn Han Hnb e1 e2 Hqs
          go_wp2
          go_roundw
          case rel => exact ⟨k + 1, c, by omega, by go_num, by rw [He2.out]; go_num, by rw [← He1.out], hcn, by rw [← He1.out]; exact Hct.out, (Hal.out _).1, (Hal.out _).2⟩
          case measure => simp [intOf]; omega
    · obtain rfl : k = ps.length := by omega
      have hDn : doneOf a n (lenSum (ps.take ps.length)) = n := by rw [hall]; unfold doneOf; omega
      have Hfin := hidden (Hend.out c wr _ hDn hcn Hct.out Hrow.out Hgw.out)
      clear hDn
      generalize doneOf a n (lenSum (ps.take ps.length)) = D at *
      generalize atOf a (lenSum (ps.take ps.length)) = A at *
      go_wp2
      go_ret2
      exact ⟨rfl, Hfin.out⟩
end Go.Proofs.PlatenPiece
