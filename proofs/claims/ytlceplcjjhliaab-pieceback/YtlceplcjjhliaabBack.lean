/- PieceBack is true of any two texts and any byte: what came and went leaves the text; a part of nothing leaves it, too, but parts pieces. -/
import Derived.Test.YtlceplcjjhliaabOwnA
import Derived.Test.YtlceplcjjhliaabBackA
namespace Go.Proofs.Ytlceplcjjhliaab.Back
open Go.ChangeShapes Go.WideShapes Go.ChangeAt Go.RowKit Go.Proofs.PlatenPiece Go.Proofs.Ytlceplcjjhliaab.Own
set_option linter.unusedVariables false

set_option maxHeartbeats 400000 in
theorem long (v v2 : Value) (n m : Nat) (l l2 : List Nat) (c : Nat) (w : World) (hv : IsSrc w v n l) (hv2 : IsSrc w v2 m l2) (hn : 100 < n ∨ (n ≤ 100 ∧ 100 < m)) :
    Calls Try.prog 4 #[v, .int .u8 c, v2] w fun e w' => e = .returned (.bool true) ∧ Below w.heap.size w w' := by
  have cs := comes_any w
  obtain ⟨ea, cap, rfl⟩ := IsSrc.len hv
  obtain ⟨eb, cap2, rfl⟩ := IsSrc.len hv2
  clear hv hv2
  rcases hn with hn | ⟨hn, hm⟩
  · have hnz : 100 < (n : Int) := by omega
    go_enter Try.func4, Try.ntmps4
    go_wp2_with fail
    refine cs.mono ?_
    rintro e w1 ⟨rfl, hb⟩
    have cs2 := comes_any w1
    go_wp2_with fail
    refine cs2.mono ?_
    rintro e w2 ⟨rfl, hb2⟩
    go_wp2
    go_ret
    exact ⟨rfl, hb.trans (hb2.mono hb.size)⟩
  · have hnz : ¬ (100 < (n : Int)) := by omega
    have hmz : 100 < (m : Int) := by omega
    go_enter Try.func4, Try.ntmps4
    go_wp2_with fail
    refine cs.mono ?_
    rintro e w1 ⟨rfl, hb⟩
    have cs2 := comes_any w1
    go_wp2_with fail
    refine cs2.mono ?_
    rintro e w2 ⟨rfl, hb2⟩
    go_wp2
    go_ret
    exact ⟨rfl, hb.trans (hb2.mono hb.size)⟩

def InsAt (ps : List Pc) (at' : Nat) (l : List Nat) (ps' : List Pc) : Prop := (l.length = 0 ∧ ps' = ps) ∨ (0 < l.length ∧ Ins ps at' l 0 ps')
theorem InsAt.back {ps ps5 ps' : List Pc} {at' : Nat} {l : List Nat} (hi : InsAt ps at' l ps5) (h : Del ps5 at' l.length ps') (hp : ∀ p ∈ ps, 0 < p.l.length) : ∃ i, Cut ps at' i ps' := by
  rcases hi with ⟨h0, rfl⟩ | ⟨h0, hi⟩
  · rw [h0] at h
    exact h.zero hp
  · exact h.back hi hp h0
theorem InsAt.ks {ps ps' : List Pc} {at' : Nat} {l : List Nat} (h : InsAt ps at' l ps') (hS : lenSum ps ≤ 65536) (hl : l.length ≤ 100) (hk : ∀ p ∈ ps, p.k = 0) : ∀ p ∈ ps', -900000000 ≤ p.k ∧ p.k ≤ 900000000 := by
  rcases h with ⟨_, rfl⟩ | ⟨_, i, ps1, hc, hh⟩
  · intro p hp
    have := hk p hp
    omega
  · have h1 := hc.ks (lo := 0) (hi := 0) hS (fun p hp => by have := hk p hp; omega)
    rcases hh with ⟨_, q, rfl⟩ | ⟨_, ha, _⟩
    · intro x hx
      simp only [List.mem_append, List.mem_cons, List.not_mem_nil, or_false] at hx
      rcases hx with hx | rfl | hx
      · have := h1 x (List.mem_of_mem_take hx); omega
      · simp only; omega
      · have := h1 x (List.mem_of_mem_drop hx); omega
    · omega
theorem InsAt.len {ps ps' : List Pc} {at' : Nat} {l : List Nat} (h : InsAt ps at' l ps') : ps'.length ≤ ps.length + 2 := by
  rcases h with ⟨_, rfl⟩ | ⟨_, hi⟩
  · omega
  · exact hi.len
theorem InsAt.sum {ps ps' : List Pc} {at' : Nat} {l : List Nat} (h : InsAt ps at' l ps') (hat : at' ≤ lenSum ps) : lenSum ps' = lenSum ps + l.length := by
  rcases h with ⟨h0, rfl⟩ | ⟨_, hi⟩
  · omega
  · exact hi.sum hat

theorem ins_at (B T : Nat) (pv : Value) (ps : List Pc) (s : Int) (at' : Nat) (v : Value) (l : List Nat) (w : World) (h : Tab B w T pv ps s 0) (hB : B ≤ w.heap.size) (hN : ps.length ≤ 99999) (hs : s = lenSum ps) (hat : at' ≤ lenSum ps) (hS : lenSum ps + l.length ≤ 65536) (hsrc : PlatenPiece.Src w v l) (hout : 0 < l.length → PlatenPiece.Outside (PlatenPiece.Own T pv ps) v)
    (hk : ∀ p ∈ ps, p.k = 0) :
    Calls Try.prog 13 #[.pointer (some ⟨T, 0, none⟩), .int .i64 at', v] w fun e w' => e = .returned (.int .i64 0) ∧ ∃ pv' ps' a', Tab B w' T pv' ps' (s + l.length) a' ∧ InsAt ps at' l ps' ∧ Kept (PlatenPiece.Own T pv ps) w w' := by
  rcases Nat.eq_zero_or_pos l.length with h0 | h0
  · obtain rfl : l = [] := List.eq_nil_of_length_eq_zero h0
    obtain ⟨va, vc, rfl⟩ := hsrc.form
    exact (insert_zero B T pv ps s 0 at' va vc w h (by omega) (by omega) (by omega)).mono fun e w' ⟨he, hw⟩ => ⟨he, pv, ps, 0, by rw [hw]; simpa using h, Or.inl ⟨rfl, rfl⟩, by rw [hw]; exact Kept.refl _ _⟩
  · exact (insert_tab B T pv ps s 0 at' v l w h hB hN hs hat hS h0 hsrc (hout h0) (fun p hp => by have := hk p hp; omega) (by omega)).mono fun e w' ⟨he, pv', ps', hT, hI, hK, hO⟩ => ⟨he, pv', ps', _, hT, Or.inr ⟨h0, hI⟩, hK⟩

set_option maxHeartbeats 8000000 in
set_option maxRecDepth 100000 in
theorem short (ea eb : Option Addr) (cap cap2 : Nat) (l l2 : List Nat) (c : Nat) (w : World) (hl : ∀ x ∈ l, x < 256) (hv : PlatenPiece.Src w (.slice ea l.length cap) l) (hv2 : PlatenPiece.Src w (.slice eb l2.length cap2) l2) (hn : l.length ≤ 100) (hm : l2.length ≤ 100) (hc : c < 256) :
    Calls Try.prog 4 #[.slice ea l.length cap, .int .u8 c, .slice eb l2.length cap2] w fun e w' => e = .returned (.bool true) ∧ Below w.heap.size w w' := by
  have cs := comes_any w
  have hnz : ¬ (100 < (l.length : Int)) := by omega
  have hmz : ¬ (100 < (l2.length : Int)) := by omega
  obtain ⟨K, hK, hKl⟩ : ∃ K : Nat, (c : Int) % ((l.length : Int) + 1) = (K : Int) ∧ K ≤ l.length := by
    have h1 := Int.emod_nonneg (c : Int) (show (l.length : Int) + 1 ≠ 0 by omega)
    have h2 := Int.emod_lt_of_pos (c : Int) (show 0 < (l.length : Int) + 1 by omega)
    exact ⟨((c : Int) % ((l.length : Int) + 1)).toNat, by omega, by omega⟩
  have HV := hidden hv
  have HV2 := hidden hv2
  have HL := hidden hl
  clear hv hv2 hl
  go_enter Try.func4, Try.ntmps4
  go_wp2_with fail
  refine cs.mono ?_
  rintro e w1 ⟨rfl, hb1⟩
  have Hb1 := hidden hb1
  have cn := new_any _ l w1 (HV.out.below hb1) (by omega)
  clear cs hb1
  go_wp2_with fail
  refine cn.mono ?_
  rintro e w2 ⟨T, pv, ps, rfl, hT2, hfl2, hln2, hk2, hg2⟩
  have hsm2 : lenSum ps = l.length := by rw [← flat_len, hfl2]
  have Hb2 := hidden (Hb1.out.trans ((below_of_grown hg2).mono Hb1.out.size))
  have HT2 := hidden hT2
  have hout : 0 < l2.length → PlatenPiece.Outside (PlatenPiece.Own T pv ps) (.slice eb l2.length cap2) := by
    intro h0 b hb ho
    have h1 := (hT2.own_lt ho).1
    have h2 := Hb1.out.size
    rcases HV2.out with ⟨e, _⟩ | ⟨ad, cap', e, hc'⟩
    · rw [e] at hb; cases hb
    · rw [e, ownBlock_some] at hb
      have h3 := World.block_lt_of_cell? _ _ (hc' 0 _ (List.getElem?_eq_getElem (by rw [bytesV_len]; exact h0)))
      have h4 : (ad.add 0).block = ad.block := rfl
      simp only [Option.some.injEq] at hb
      omega
  have ci := ins_at w1.heap.size T pv ps _ K _ l2 w2 hT2 hg2.size (by omega) (by rw [hsm2]) (by omega) (by rw [hsm2]; omega) (HV2.out.below Hb2.out) hout hk2
  have HP2 : Hid (∀ p ∈ ps, 0 < p.l.length) := fun p hp => (hT2.good p hp).2
  have Hfl2 := hidden hfl2
  have Hk2 := hidden hk2
  have s12 := hg2.size
  clear cn hT2 hfl2 hk2 hg2 hout
  go_wp2_with fail
  refine ci.mono ?_
  rintro e w3 ⟨rfl, pv3, ps3, a3, hT3, hI3, hK3⟩
  have hbel3 := hK3.bel HT2.out s12
  have Hb3 := hidden (Hb2.out.trans (hbel3.mono Hb1.out.size))
  have s23 := hK3.size
  have hsm3 := hI3.sum (by omega)
  have hln3 := hI3.len
  have cd := delete_tab w1.heap.size T pv3 ps3 _ a3 K l2.length w3 hT3 (by omega) (by omega) (by omega) (by omega) (by omega) (hI3.ks (by omega) hm Hk2.out)
  have HT3 := hidden hT3
  have HI3 := hidden hI3
  clear ci hT3 hI3 hK3 hbel3
  go_wp2_with fail
  refine cd.mono ?_
  rintro e w4 ⟨rfl, pv4, ps4, hT4, hD4, hK4, _⟩
  obtain ⟨i4, hC4⟩ := HI3.out.back hD4 HP2.out
  have hbel4 := hK4.bel HT3.out (by omega)
  have Hb4 := hidden (Hb3.out.trans (hbel4.mono Hb1.out.size))
  have s34 := hK4.size
  have hfl4 : flat ps4 = l := hC4.flat.1.trans Hfl2.out
  have hsm4 : lenSum ps4 = l.length := by rw [← flat_len, hfl4]
  have hln4 := hC4.le.2
  have hct4 := hC4.count HP2.out hln2 Hfl2.out
  have hs4 : (l.length : Int) + (l2.length : Int) - (l2.length : Int) = (l.length : Int) := by omega
  rw [hs4] at hT4
  have cb := bytes_tab _ T pv4 ps4 _ a3 w4 hT4 (by omega) (by rw [hsm4]) (by omega)
  rw [hfl4, hsm4] at cb
  have HT4 := hidden hT4
  have HC4 := hidden hC4
  have HF4 := hidden hfl4
  have HN4 := hidden hct4
  clear cd hT4 hD4 hK4 hC4 hfl4 hbel4 hs4 hct4
  go_wp2_with fail
  refine cb.mono ?_
  rintro e w5 ⟨rfl, h5, hg5⟩
  have Hb5 := hidden (Hb4.out.trans ((below_of_grown hg5).mono Hb4.out.size))
  have HT5 := hidden (HT4.out.grown hg5)
  have cq := same_src w4.heap.size l.length _ l w5 HL.out (by omega) h5 (HV.out.below Hb5.out)
  have s45 := hg5.size
  clear cb h5 hg5
  go_wp2_with fail
  refine cq.mono ?_
  rintro e w6 ⟨rfl, hb6⟩
  have Hb6 := hidden (Hb5.out.trans (hb6.mono Hb5.out.size))
  have HT6 := hidden (HT5.out.grown (grown_of_below hb6))
  have s56 := hb6.size
  have cp := pieces_tab _ T pv4 ps4 _ _ w6 HT6.out
  have cd := delete_tab w1.heap.size T pv4 ps4 _ a3 K 0 w6 HT6.out (by omega) (by omega) (by omega) (by omega) (by omega) (fun p hp => by
    have := HC4.out.ks (lo := 0) (hi := 0) (by omega) (fun p hp => by have := Hk2.out p hp; omega) p hp
    omega)
  clear cq hb6
  have hW : (l.length = 0 ∧ ps4.length = 0) ∨ (0 < l.length ∧ K = 0 ∧ ps4.length = 1) ∨ (0 < l.length ∧ 0 < K ∧ K < l.length ∧ ps4.length = 2) ∨ (0 < l.length ∧ 0 < K ∧ ¬ (K < l.length) ∧ ps4.length = 1) := by
    have h1 := HN4.out
    unfold wantOf at h1
    split at h1
    · left; omega
    · split at h1
      · right; right; left; omega
      · rcases Nat.eq_zero_or_pos K with h2 | h2
        · right; left; omega
        · right; right; right; omega
  clear HN4
  have tail : ∀ w7 pv7 ps7, Tab w1.heap.size w7 T pv7 ps7 ((l.length : Int) - ((0 : Nat) : Int)) a3 → Del ps4 K 0 ps7 → Kept (PlatenPiece.Own T pv4 ps4) w6 w7 → ps7 = ps4 ∧ Tab w1.heap.size w7 T pv7 ps4 (l.length : Int) a3 ∧ Below w.heap.size w w7 ∧ w6.heap.size ≤ w7.heap.size := by
    intro w7 pv7 ps7 hT7 hD7 hK7
    have e := hD7.same (HC4.out.pos HP2.out) HC4.out.le.1 HC4.out.flat.2
    subst e
    have hbel := hK7.bel HT6.out (by omega)
    refine ⟨rfl, ?_, Hb6.out.trans (hbel.mono Hb1.out.size), hK7.size⟩
    have e2 : (l.length : Int) - ((0 : Nat) : Int) = (l.length : Int) := by omega
    rw [e2] at hT7
    exact hT7
  have HTail := hidden tail
  clear tail
  rcases hW with ⟨h1, h4⟩ | ⟨h1, h2, h4⟩ | ⟨h1, h2, h3, h4⟩ | ⟨h1, h2, h3, h4⟩
  · have z1 : (l.length : Int) = 0 := by omega
    rw [h4] at cp
    clear h1
    go_wp2_with fail
    clear z1
    refine cp.mono ?_
    rintro e w6' ⟨rfl, rfl⟩
    go_wp2_with fail
    refine cd.mono ?_
    rintro e w7 ⟨rfl, pv7, ps7, hT7, hD7, hK7, _⟩
    obtain ⟨rfl, hT7', hb7, s67⟩ := HTail.out w7 pv7 ps7 hT7 hD7 hK7
    have HT7 := hidden hT7'
    have Hb7 := hidden hb7
    have cp7 := pieces_tab _ T pv7 ps7 _ _ w7 hT7'
    rw [h4] at cp7
    have cb7 := bytes_tab _ T pv7 ps7 _ _ w7 hT7' (by omega) (by rw [hsm4]) (by omega)
    rw [HF4.out, hsm4] at cb7
    clear hT7 hD7 hK7 hT7' hb7 cd cp
    go_wp2_with fail
    refine cp7.mono ?_
    rintro e w7' ⟨rfl, rfl⟩
    go_wp2_with fail
    refine cb7.mono ?_
    rintro e w8 ⟨rfl, h8, hg8⟩
    have Hb8 := hidden (Hb7.out.trans ((below_of_grown hg8).mono Hb7.out.size))
    have cq8 := same_src _ l.length _ l w8 HL.out (by omega) h8 (HV.out.below Hb8.out)
    clear h8 hg8 cp7 cb7
    go_wp2_with fail
    refine cq8.mono ?_
    rintro e w9 ⟨rfl, hb9⟩
    have Hb9 := hidden (Hb8.out.trans (hb9.mono Hb8.out.size))
    clear hb9 cq8
    go_wp2
    go_ret
    exact ⟨rfl, Hb9.out⟩
  · have z1 : ¬ ((l.length : Int) = 0) := by omega
    have z2 : ¬ (0 < (K : Int)) := by omega
    rw [h4] at cp
    clear h2
    go_wp2_with fail
    refine cp.mono ?_
    rintro e w6' ⟨rfl, rfl⟩
    go_wp2_with fail
    refine cd.mono ?_
    rintro e w7 ⟨rfl, pv7, ps7, hT7, hD7, hK7, _⟩
    obtain ⟨rfl, hT7', hb7, s67⟩ := HTail.out w7 pv7 ps7 hT7 hD7 hK7
    have HT7 := hidden hT7'
    have Hb7 := hidden hb7
    have cp7 := pieces_tab _ T pv7 ps7 _ _ w7 hT7'
    rw [h4] at cp7
    have cb7 := bytes_tab _ T pv7 ps7 _ _ w7 hT7' (by omega) (by rw [hsm4]) (by omega)
    rw [HF4.out, hsm4] at cb7
    clear hT7 hD7 hK7 hT7' hb7 cd cp
    go_wp2_with fail
    refine cp7.mono ?_
    rintro e w7' ⟨rfl, rfl⟩
    go_wp2_with fail
    refine cb7.mono ?_
    rintro e w8 ⟨rfl, h8, hg8⟩
    have Hb8 := hidden (Hb7.out.trans ((below_of_grown hg8).mono Hb7.out.size))
    have cq8 := same_src _ l.length _ l w8 HL.out (by omega) h8 (HV.out.below Hb8.out)
    clear h8 hg8 cp7 cb7
    go_wp2_with fail
    refine cq8.mono ?_
    rintro e w9 ⟨rfl, hb9⟩
    have Hb9 := hidden (Hb8.out.trans (hb9.mono Hb8.out.size))
    clear hb9 cq8
    go_wp2
    go_ret
    exact ⟨rfl, Hb9.out⟩
  · have z1 : ¬ ((l.length : Int) = 0) := by omega
    have z2 : 0 < (K : Int) := by omega
    have z3 : (K : Int) < (l.length : Int) := by omega
    rw [h4] at cp
    go_wp2_with fail
    refine cp.mono ?_
    rintro e w6' ⟨rfl, rfl⟩
    go_wp2_with fail
    refine cd.mono ?_
    rintro e w7 ⟨rfl, pv7, ps7, hT7, hD7, hK7, _⟩
    obtain ⟨rfl, hT7', hb7, s67⟩ := HTail.out w7 pv7 ps7 hT7 hD7 hK7
    have HT7 := hidden hT7'
    have Hb7 := hidden hb7
    have cp7 := pieces_tab _ T pv7 ps7 _ _ w7 hT7'
    rw [h4] at cp7
    have cb7 := bytes_tab _ T pv7 ps7 _ _ w7 hT7' (by omega) (by rw [hsm4]) (by omega)
    rw [HF4.out, hsm4] at cb7
    clear hT7 hD7 hK7 hT7' hb7 cd cp
    go_wp2_with fail
    refine cp7.mono ?_
    rintro e w7' ⟨rfl, rfl⟩
    go_wp2_with fail
    refine cb7.mono ?_
    rintro e w8 ⟨rfl, h8, hg8⟩
    have Hb8 := hidden (Hb7.out.trans ((below_of_grown hg8).mono Hb7.out.size))
    have cq8 := same_src _ l.length _ l w8 HL.out (by omega) h8 (HV.out.below Hb8.out)
    clear h8 hg8 cp7 cb7
    go_wp2_with fail
    refine cq8.mono ?_
    rintro e w9 ⟨rfl, hb9⟩
    have Hb9 := hidden (Hb8.out.trans (hb9.mono Hb8.out.size))
    clear hb9 cq8
    go_wp2
    go_ret
    exact ⟨rfl, Hb9.out⟩
  · have z1 : ¬ ((l.length : Int) = 0) := by omega
    have z2 : 0 < (K : Int) := by omega
    have z3 : ¬ ((K : Int) < (l.length : Int)) := by omega
    rw [h4] at cp
    go_wp2_with fail
    refine cp.mono ?_
    rintro e w6' ⟨rfl, rfl⟩
    go_wp2_with fail
    refine cd.mono ?_
    rintro e w7 ⟨rfl, pv7, ps7, hT7, hD7, hK7, _⟩
    obtain ⟨rfl, hT7', hb7, s67⟩ := HTail.out w7 pv7 ps7 hT7 hD7 hK7
    have HT7 := hidden hT7'
    have Hb7 := hidden hb7
    have cp7 := pieces_tab _ T pv7 ps7 _ _ w7 hT7'
    rw [h4] at cp7
    have cb7 := bytes_tab _ T pv7 ps7 _ _ w7 hT7' (by omega) (by rw [hsm4]) (by omega)
    rw [HF4.out, hsm4] at cb7
    clear hT7 hD7 hK7 hT7' hb7 cd cp
    go_wp2_with fail
    refine cp7.mono ?_
    rintro e w7' ⟨rfl, rfl⟩
    go_wp2_with fail
    refine cb7.mono ?_
    rintro e w8 ⟨rfl, h8, hg8⟩
    have Hb8 := hidden (Hb7.out.trans ((below_of_grown hg8).mono Hb7.out.size))
    have cq8 := same_src _ l.length _ l w8 HL.out (by omega) h8 (HV.out.below Hb8.out)
    clear h8 hg8 cp7 cb7
    go_wp2_with fail
    refine cq8.mono ?_
    rintro e w9 ⟨rfl, hb9⟩
    have Hb9 := hidden (Hb8.out.trans (hb9.mono Hb8.out.size))
    clear hb9 cq8
    go_wp2
    go_ret
    exact ⟨rfl, Hb9.out⟩

theorem law (v : Value) (n : Nat) (l : List Nat) (c : Nat) (v2 : Value) (m : Nat) (l2 : List Nat) (w : World) (hv : IsSrc w v n l) (hc : c < 256) (hv2 : IsSrc w v2 m l2) :
    Calls Try.prog 4 #[v, .int .u8 c, v2] w fun e w' => e = .returned (.bool true) ∧ Below w.heap.size w w' := by
  by_cases hn : n ≤ 100
  · by_cases hm : m ≤ 100
    · obtain ⟨ea, cap, rfl⟩ := IsSrc.len hv
      obtain ⟨eb, cap2, rfl⟩ := IsSrc.len hv2
      obtain ⟨a1, a2, a3, a4⟩ := hv
      obtain ⟨b1, b2, b3, b4⟩ := hv2
      subst a2 b2
      exact short ea eb cap cap2 l l2 c w a1 a4 b4 hn hm hc
    · exact long v v2 n m l l2 c w hv hv2 (Or.inr ⟨hn, by omega⟩)
  · exact long v v2 n m l l2 c w hv hv2 (Or.inl (by omega))

set_option maxRecDepth 100000 in
theorem lifted (os : Os) (started : os.Started) (H : Type) (enc : TypeId × Value → H) :
    ReturnsInHanded {} Try.checked os 4 .any (Rows.pieceBackSpec.pre6 enc Try.prog Try.f4 Rows.pieceBackRow.domain false) (Rows.pieceBackSpec.post enc Try.prog Try.f4 false true false false) := by
  refine returnsInHanded_of_change (C := Try.checked) own started (by kernel_rfl) Try.func4
    (ChangeSpec.witness6 (enc := enc) (C := Try.checked) false ⟨#[], #[.slice none 0 0, .int .u8 0, .slice none 0 0], []⟩ 8 (by kernel_rfl) (by kernel_rfl) (by kernel_rfl) (by kernel_rfl)) ?_
  intro W base args ds gs before hval0 hW _ _
  have hval : ∀ (j : Nat) t v, Try.f4.params[j]? = some t → args[j]? = some v → Value.okWide Try.prog W .any base t v := hval0
  have hW' := hW
  obtain ⟨p, q, hA0, hV, rfl, _, _⟩ := hW
  have hA : DataW.TrodAll enc Try.prog W 0 (fun _ => true) true Try.f4.params.toList args.toList ds p := hA0
  rw [Try.params4] at hA hval
  obtain ⟨v0, vs0, d0, ds0, p0, q0, hargs, rfl, rfl, h0, r0⟩ := trodAll_cons hA
  obtain ⟨v1, vs1, d1, ds1, p1, q1, rfl, rfl, rfl, h1, r1⟩ := trodAll_cons r0
  obtain ⟨v2, vs2, d2, ds2, p2, q2, rfl, rfl, rfl, h2, r2⟩ := trodAll_cons r1
  obtain ⟨rfl, rfl, rfl⟩ := trodAll_nil r2
  obtain rfl : args = #[v0, v1, v2] := by cases args; simp_all
  obtain ⟨rfl, rfl⟩ := trodVars_none hV
  have lt0 : ∀ x ∈ p0, x.block < W.heap.size := by obtain ⟨m, hm⟩ := h0; exact DataW.trod_lt m _ _ _ hm
  obtain ⟨n0, f0, g0⟩ := open_src (hval 0 22 v0 rfl rfl) h0
  obtain ⟨x1, rfl, rfl, rfl, w1⟩ := open_int Try.underlying5 (hval 1 5 v1 rfl rfl) h1
  have b1 : 0 ≤ x1 ∧ x1 ≤ 255 := by simpa [Lit.wf, IntKind.min, IntKind.max, IntKind.signed, IntKind.bits] using w1
  obtain ⟨c1, rfl⟩ := Int.eq_ofNat_of_zero_le b1.1
  have lt2 : ∀ x ∈ p2, x.block < W.heap.size := by obtain ⟨m, hm⟩ := h2; exact DataW.trod_lt m _ _ _ hm
  obtain ⟨n2, f2, g2⟩ := open_src (hval 2 22 v2 rfl rfl) h2
  clear hA0 hval0
  simp only [List.append_nil] at hW'
  refine (law v0 n0 f0 c1 v2 n2 f2 W g0 (by omega) g2).mono fun e W' ⟨he, bel⟩ => ?_
  subst he
  exact ⟨_, rfl, _, _, _, [], _, [], hW', trodAll_mk1 (shut_bool Try.underlying4 _), (trodAll_cons_mk (Below.trod laidOut (by kernel_rfl) (of_decide_eq_true (by kernel_rfl)) h0 bel lt0) (trodAll_cons_mk (shut_int Try.underlying5 w1) (trodAll_cons_mk (Below.trod laidOut (by kernel_rfl) (of_decide_eq_true (by kernel_rfl)) h2 bel lt2) trodAll_mk0))), rfl, bel.frame _, fun h => by cases h⟩

theorem said : Rows.PieceBackSaid :=
  OpenClaim.holds_of_wide 4 Try.f4 rfl rfl rfl rfl rfl rfl rfl ⟨rfl, rfl, rfl, rfl, rfl⟩ rfl rfl rfl rfl rfl (by kernel_rfl) Try.func4 (by kernel_rfl)
    (of_decide_eq_true (by kernel_rfl)) (by unfold Func.isWrapper; first | (rw [if_pos (by decide +kernel)]; kernel_rfl) | (rw [if_neg (by decide +kernel)]; exact ⟨rfl, rfl⟩))
    (fun os started H enc _ => lifted os started H enc)
#print axioms said
end Go.Proofs.Ytlceplcjjhliaab.Back
