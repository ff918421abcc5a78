/- What leader.Of and the document's Of come to; the example. -/
import Derived.Test.YtglgcbocpdenhabDoorLdB
import Derived.OwnWalk
namespace Go.Proofs.PlatenLeader
open Go.RowKit
set_option linter.unusedVariables false

theorem drop_pre (l : List UInt8) : l.drop (pre l).length = pst l := by
  conv => lhs; rw [← pre_pst l]
  have : pre (pre l ++ pst l) = pre l := by rw [pre_pst]
  rw [this, List.drop_left]
theorem take_pre (l : List UInt8) : l.take (pre l).length = pre l := by
  conv => lhs; rw [← pre_pst l]
  have : pre (pre l ++ pst l) = pre l := by rw [pre_pst]
  rw [this, List.take_left]
theorem take_eq_of_app {l a b : List UInt8} (h : l = a ++ b) : l.take a.length = a := by rw [h, List.take_left]
theorem below_dN {B : Nat} {a w : World} (h : Below B a w) (n : Nat) : Below B a (w.drewN n) := h.trans ⟨rfl, rfl, rfl, Nat.le_refl _, fun _ _ => rfl⟩
/-- Where the parts of a line end. -/
theorem cuts (s : ByteArray) : ∃ k e n : Nat, k = (pre (L s)).length ∧ k ≤ e ∧ e ≤ n ∧ n ≤ s.size ∧ (e : Int) = (k : Int) + (((L (s.extract k s.size)).takeWhile nb).length : Nat) ∧ (n : Int) = (e : Int) + ((pre (L (s.extract e s.size))).length : Nat) ∧
    s.extract k s.size = S (pst (L s)) ∧ s.extract k e = S (wrd (L s)) ∧ s.extract 0 k = S (pre (L s)) ∧ s.extract 0 e = S (pre (L s) ++ wrd (L s)) ∧ s.extract e n = S (pre (aft (L s))) ∧ s.extract n s.size = S (pst (aft (L s))) := by
  have hl : (L s).length = s.size := rfl
  generalize hL : L s = l at hl
  have h1 := pre_pst l
  have h2 := wrd_aft l
  have h3 := pre_pst (aft l)
  have all : l = pre l ++ (wrd l ++ (pre (aft l) ++ pst (aft l))) := by rw [h3, h2, h1]
  have len := congrArg List.length all
  simp only [List.length_append] at len
  have tail : ∀ i, L (s.extract i s.size) = l.drop i := fun i => by
    rw [L_ext, hL, List.take_of_length_le]
    rw [List.length_drop, hl]; exact Nat.le_refl _
  have dk : l.drop (pre l).length = pst l := drop_pre l
  have de : l.drop ((pre l).length + (wrd l).length) = aft l := by
    rw [← List.drop_drop, dk, ← h2, List.drop_left]
  have dn : l.drop ((pre l).length + (wrd l).length + (pre (aft l)).length) = pst (aft l) := by
    rw [← List.drop_drop, de, drop_pre]
  refine ⟨(pre l).length, (pre l).length + (wrd l).length, (pre l).length + (wrd l).length + (pre (aft l)).length, rfl, by omega, by omega, by omega, ?_, ?_, ?_, ?_, ?_, ?_, ?_, ?_⟩
  · rw [tail, dk]; show _ = ((pre l).length : Int) + ((wrd l).length : Nat); omega
  · rw [tail, de]; omega
  · rw [← S_L (s.extract _ _), tail, dk]
  · rw [ext_S, hL, dk, ← h2]
    congr 2
    rw [show (pre l).length + (wrd l).length - (pre l).length = (wrd l).length by omega, List.take_left]
  · rw [ext_S, hL, List.drop_zero, Nat.sub_zero, take_pre]
  · rw [ext_S, hL, List.drop_zero, Nat.sub_zero]
    congr 2
    rw [← List.length_append]
    exact take_eq_of_app (by rw [List.append_assoc]; exact all)
  · rw [ext_S, hL, de]
    congr 2
    rw [show (pre l).length + (wrd l).length + (pre (aft l)).length - ((pre l).length + (wrd l).length) = (pre (aft l)).length by omega, take_pre]
  · rw [← S_L (s.extract _ _), tail, dn]

set_option maxHeartbeats 2000000 in
theorem of_any (s : ByteArray) (w : World) (hs : s.size ≤ 1000000) (hM : MK w) :
    Calls Tryd.prog 11 #[.string s] w fun e w' => e = .returned (.tuple #[.string (S (hd (L s))), .string (S (gp (L s))), .string (S (rs (L s)))]) ∧ Below w.heap.size w w' := by
  obtain ⟨k, e, n, hk, hke, hen, hns, he, hn, x1, x2, x3, x4, x5, x6⟩ := cuts s
  have hes : e ≤ s.size := by omega
  have hks : k ≤ s.size := by omega
  have c1 := indent_any s w hs
  rw [← hk] at c1
  have c2 := solid_any (s.extract k s.size) w (by simp [ByteArray.size_extract]; omega)
  have c3 := mark_any (wrd (L s)) w hM
  have c4 := indent_any (s.extract e s.size) w (by simp [ByteArray.size_extract]; omega)
  have h3 : S (wrd (L s)) = s.extract k e := x2.symm
  rw [show (⟨(wrd (L s)).toArray⟩ : ByteArray) = s.extract k e from x2.symm] at c3
  have hw1 : (k : Int) + (((L (s.extract k s.size)).takeWhile nb).length : Nat) = (e : Int) := he.symm
  have hw2 : (e : Int) + ((pre (L (s.extract e s.size))).length : Nat) = (n : Int) := hn.symm
  cases hm : mkB (wrd (L s)) with
  | false =>
    rw [hm] at c3
    have HF : Hid (s.extract 0 k = S (hd (L s)) ∧ (⟨#[]⟩ : ByteArray) = S (gp (L s)) ∧ s.extract k s.size = S (rs (L s))) := by
      unfold Hid hd gp rs
      rw [hm]
      exact ⟨x3, rfl, x1⟩
    clear hm x1 x2 x3 x4 x5 x6 h3 hk he hn hM
    generalize ((L (s.extract k s.size)).takeWhile nb).length = y at *
    generalize (pre (L (s.extract e s.size))).length = z at *
    go_enter Tryd.func11, Tryd.ntmps11
    go_wp2_with fail
    refine c1.mono ?_
    rintro e w' ⟨rfl, rfl⟩
    go_wp2_with fail
    refine c2.mono ?_
    rintro e w' ⟨rfl, rfl⟩
    go_wp2_with fail
    refine c3.mono ?_
    rintro e w' ⟨rfl, rfl⟩
    go_wp2_with fail
    go_quiet (fail)
    go_wp2
    go_ret3
    obtain ⟨f1, f2, f3⟩ := HF.out
    rw [← f1, ← f2, ← f3]
    exact ⟨rfl, below_dN (Below.refl _ _) nq⟩
  | true =>
    rw [hm] at c3
    have HF : Hid (s.extract 0 e = S (hd (L s)) ∧ s.extract e n = S (gp (L s)) ∧ s.extract n s.size = S (rs (L s))) := by
      unfold Hid hd gp rs
      rw [hm]
      exact ⟨x4, x5, x6⟩
    clear hm x1 x2 x3 x4 x5 x6 h3 hk he hn hM
    generalize ((L (s.extract k s.size)).takeWhile nb).length = y at *
    generalize (pre (L (s.extract e s.size))).length = z at *
    go_enter Tryd.func11, Tryd.ntmps11
    go_wp2_with fail
    refine c1.mono ?_
    rintro e w' ⟨rfl, rfl⟩
    go_wp2_with fail
    refine c2.mono ?_
    rintro e w' ⟨rfl, rfl⟩
    go_wp2_with fail
    refine c3.mono ?_
    rintro e w' ⟨rfl, rfl⟩
    go_wp2_with fail
    refine c4.mono ?_
    rintro e w' ⟨rfl, rfl⟩
    go_wp2_with fail
    go_quiet (fail)
    go_wp2
    go_ret3
    obtain ⟨f1, f2, f3⟩ := HF.out
    rw [← f1, ← f2, ← f3]
    exact ⟨rfl, below_dN (Below.refl _ _) nq⟩

theorem get_nb (s : ByteArray) (j : Nat) (h : j < s.size) : s[j] = (L s).getD j 0 := by
  rw [List.getD_eq_getElem?_getD, List.getElem?_eq_getElem (by simpa using h)]
  rfl
theorem nb_b (c : UInt8) : nb c = ((c.toNat : Int) != 32 && (c.toNat : Int) != 9) := by
  unfold nb bl
  rw [Bool.eq_iff_iff]
  simp [← UInt8.toNat_inj]
  omega
theorem getD_drop' (l : List UInt8) (k j : Nat) : (l.drop k).getD j 0 = l.getD (k + j) 0 := by
  simp [List.getD_eq_getElem?_getD, List.getElem?_drop]
theorem exit_eq {s : ByteArray} {k m e : Nat} (hkm : k ≤ m) (hm : m ≤ s.size) (hall : ∀ j, k ≤ j → j < m → nb ((L s).getD j 0) = true) (hend : m < s.size → nb ((L s).getD m 0) = false)
    (he : e = k + (((L s).drop k).takeWhile nb).length) : m = e := by
  have hl : (L s).length = s.size := rfl
  have := tw_len nb ((L s).drop k) (m - k) (by rw [List.length_drop, hl]; omega) (fun j hj => by rw [getD_drop']; exact hall _ (by omega) (by omega))
    (fun h => by rw [getD_drop', show k + (m - k) = m by omega]; rw [List.length_drop, hl] at h; exact hend (by omega))
  omega

set_option maxHeartbeats 4000000 in
theorem rof_any (s : ByteArray) (w : World) (hs : s.size ≤ 1000000) :
    Calls Tryd.prog 12 #[.string s] w fun e w' => e = .returned (.tuple #[.string (S (hd (L s))), .string (S (gp (L s))), .string (S (rs (L s)))]) ∧ Below w.heap.size w w' := by
  obtain ⟨k, e, n, hk, hke, hen, hns, he, hn, x1, x2, x3, x4, x5, x6⟩ := cuts s
  have hes : e ≤ s.size := by omega
  have hks : k ≤ s.size := by omega
  obtain ⟨W, cap, hr, hcap, hcl, hbl⟩ := conv_bytes s w
  have c1 := rindent_any s w.heap.size cap W hs hcap hcl
  rw [← hk] at c1
  have Hr := hidden hr
  have Hb := hidden hbl
  have HW : Hid (e = k + (((L s).drop k).takeWhile nb).length) := by
    unfold Hid
    have h1 : L (s.extract k s.size) = (L s).drop k := by
      rw [L_ext, List.take_of_length_le]
      rw [List.length_drop]; exact Nat.le_refl _
    rw [h1] at he
    omega
  have c3 := rmark_any (wrd (L s)) W
  rw [show (⟨(wrd (L s)).toArray⟩ : ByteArray) = s.extract k e from x2.symm] at c3
  have X1 := hidden x1
  have X3 := hidden x3
  have X4 := hidden x4
  have X5 := hidden x5
  have X6 := hidden x6
  have HN := hidden hn
  clear hr hcl hbl hk he hn x1 x2 x3 x4 x5 x6 hcap
  go_enter Tryd.func12, Tryd.ntmps12
  go_wp2_with fail
  rw [Hr.out]
  simp only [Result.andThen]
  rw [Oper.upon_value]
  go_wp2_with fail
  refine c1.mono ?_
  rintro e' w' ⟨rfl, rfl⟩
  clear Hr
  go_wp2
  go_loop [6] (fun i => ∃ m : Nat, k ≤ m ∧ m ≤ s.size ∧ i = .int .i64 m ∧ ∀ j, k ≤ j → j < m → nb ((L s).getD j 0) = true) (fun i => s.size - (intOf i).toNat)
  case atStart => exact ⟨k, Nat.le_refl _, hks, rfl, fun j h1 h2 => by omega⟩
  case round =>
    obtain ⟨m, hkm, hm, rfl, hall⟩ := hrel
    by_cases hlt : m < s.size
    · have hg := get_nb s m hlt
      have hx := nb_b s[m]
      rw [hg] at hx
      cases hnb : nb ((L s).getD m 0) with
      | true =>
        rw [hnb] at hx
        have h32 : ((((L s).getD m 0).toNat : Int) != 32) = true := by
          have := hx.symm; rw [Bool.and_eq_true] at this; exact this.1
        have h9 : ((((L s).getD m 0).toNat : Int) != 9) = true := by
          have := hx.symm; rw [Bool.and_eq_true] at this; exact this.2
        rw [← hg] at h32 h9
        have HA : Hid (∀ j, k ≤ j → j < m + 1 → nb ((L s).getD j 0) = true) := fun j h1 h2 => by
          by_cases q : j = m
          · subst q; exact hnb
          · exact hall j h1 (by omega)
        clear hall hnb hx hg
        go_wp2
        go_round
        case rel => exact ⟨m + 1, by omega, by omega, by go_num, HA.out⟩
        case measure => simp [intOf]; omega
      | false =>
        rw [hnb] at hx
        by_cases q : ((L s).getD m 0).toNat = 32
        · have h32 : ((((L s).getD m 0).toNat : Int) != 32) = false := by rw [q]; decide
          rw [← hg] at h32
          have hme : m = e := exit_eq hkm hm hall (fun _ => hnb) HW.out
          subst hme
          clear hall hnb hx hg q
          go_wp2_with fail
          refine c3.mono ?_
          rintro e' w' ⟨rfl, rfl⟩
          cases hm2 : mkB (wrd (L s)) with
          | false =>
            have HF : Hid (s.extract 0 k = S (hd (L s)) ∧ (⟨#[]⟩ : ByteArray) = S (gp (L s)) ∧ s.extract k s.size = S (rs (L s))) := by
              unfold Hid hd gp rs
              rw [hm2]
              exact ⟨X3.out, rfl, X1.out⟩
            clear hm2
            go_wp2_with fail
            go_quiet (fail)
            go_wp2
            go_ret3
            obtain ⟨f1, f2, f3⟩ := HF.out
            rw [← f1, ← f2, ← f3]
            exact ⟨rfl, below_dN Hb.out nq⟩
          | true =>
            have HF : Hid (s.extract 0 m = S (hd (L s)) ∧ s.extract m n = S (gp (L s)) ∧ s.extract n s.size = S (rs (L s))) := by
              unfold Hid hd gp rs
              rw [hm2]
              exact ⟨X4.out, X5.out, X6.out⟩
            clear hm2
            have hsz : (s.extract m s.size).size ≤ 1000000 := by simp [ByteArray.size_extract]; omega
            obtain ⟨W2, cap2, hr2, hcap2, hcl2, hbl2⟩ := conv_bytes (s.extract m s.size) w'
            have c4 := rindent_any (s.extract m s.size) w'.heap.size cap2 W2 hsz hcap2 hcl2
            have Hb2 := hidden (Hb.out.trans (hbl2.mono Hb.out.size))
            obtain ⟨q2, hq2⟩ : ∃ q2, (s.extract m s.size).size = q2 := ⟨_, rfl⟩
            rw [hq2] at hr2 c4
            have hw2 : (m : Int) + ((pre (L (s.extract m s.size))).length : Nat) = (n : Int) := HN.out.symm
            have Hr2 := hidden hr2
            clear hr2 hcl2 hbl2 c1 c3 hcap2 hq2
            generalize (pre (L (s.extract m s.size))).length = z at *
            go_wp2_with fail
            rw [Hr2.out]
            simp only [Result.andThen]
            rw [Oper.upon_value]
            go_wp2_with fail
            refine c4.mono ?_
            rintro e' w'' ⟨rfl, rfl⟩
            clear Hr2 c4 hsz
            go_wp2_with fail
            go_quiet (fail)
            go_wp2
            go_ret3
            obtain ⟨f1, f2, f3⟩ := HF.out
            rw [← f1, ← f2, ← f3]
            exact ⟨rfl, below_dN Hb2.out nq⟩
        · have h32 : ((((L s).getD m 0).toNat : Int) != 32) = true := by rw [bne_iff_ne]; omega
          have h9 : ((((L s).getD m 0).toNat : Int) != 9) = false := by
            rw [h32, Bool.true_and] at hx; exact hx.symm
          rw [← hg] at h32 h9
          have hme : m = e := exit_eq hkm hm hall (fun _ => hnb) HW.out
          subst hme
          clear hall hnb hx hg q
          go_wp2_with fail
          refine c3.mono ?_
          rintro e' w' ⟨rfl, rfl⟩
          cases hm2 : mkB (wrd (L s)) with
          | false =>
            have HF : Hid (s.extract 0 k = S (hd (L s)) ∧ (⟨#[]⟩ : ByteArray) = S (gp (L s)) ∧ s.extract k s.size = S (rs (L s))) := by
              unfold Hid hd gp rs
              rw [hm2]
              exact ⟨X3.out, rfl, X1.out⟩
            clear hm2
            go_wp2_with fail
            go_quiet (fail)
            go_wp2
            go_ret3
            obtain ⟨f1, f2, f3⟩ := HF.out
            rw [← f1, ← f2, ← f3]
            exact ⟨rfl, below_dN Hb.out nq⟩
          | true =>
            have HF : Hid (s.extract 0 m = S (hd (L s)) ∧ s.extract m n = S (gp (L s)) ∧ s.extract n s.size = S (rs (L s))) := by
              unfold Hid hd gp rs
              rw [hm2]
              exact ⟨X4.out, X5.out, X6.out⟩
            clear hm2
            have hsz : (s.extract m s.size).size ≤ 1000000 := by simp [ByteArray.size_extract]; omega
            obtain ⟨W2, cap2, hr2, hcap2, hcl2, hbl2⟩ := conv_bytes (s.extract m s.size) w'
            have c4 := rindent_any (s.extract m s.size) w'.heap.size cap2 W2 hsz hcap2 hcl2
            have Hb2 := hidden (Hb.out.trans (hbl2.mono Hb.out.size))
            obtain ⟨q2, hq2⟩ : ∃ q2, (s.extract m s.size).size = q2 := ⟨_, rfl⟩
            rw [hq2] at hr2 c4
            have hw2 : (m : Int) + ((pre (L (s.extract m s.size))).length : Nat) = (n : Int) := HN.out.symm
            have Hr2 := hidden hr2
            clear hr2 hcl2 hbl2 c1 c3 hcap2 hq2
            generalize (pre (L (s.extract m s.size))).length = z at *
            go_wp2_with fail
            rw [Hr2.out]
            simp only [Result.andThen]
            rw [Oper.upon_value]
            go_wp2_with fail
            refine c4.mono ?_
            rintro e' w'' ⟨rfl, rfl⟩
            clear Hr2 c4 hsz
            go_wp2_with fail
            go_quiet (fail)
            go_wp2
            go_ret3
            obtain ⟨f1, f2, f3⟩ := HF.out
            rw [← f1, ← f2, ← f3]
            exact ⟨rfl, below_dN Hb2.out nq⟩
    · have hlz : ¬ ((m : Int) < (s.size : Int)) := by omega
      have hme : m = e := exit_eq hkm hm hall (fun h => absurd h hlt) HW.out
      subst hme
      clear hall
      go_wp2_with fail
      refine c3.mono ?_
      rintro e' w' ⟨rfl, rfl⟩
      cases hm2 : mkB (wrd (L s)) with
      | false =>
        have HF : Hid (s.extract 0 k = S (hd (L s)) ∧ (⟨#[]⟩ : ByteArray) = S (gp (L s)) ∧ s.extract k s.size = S (rs (L s))) := by
          unfold Hid hd gp rs
          rw [hm2]
          exact ⟨X3.out, rfl, X1.out⟩
        clear hm2
        go_wp2_with fail
        go_quiet (fail)
        go_wp2
        go_ret3
        obtain ⟨f1, f2, f3⟩ := HF.out
        rw [← f1, ← f2, ← f3]
        exact ⟨rfl, below_dN Hb.out nq⟩
      | true =>
        have HF : Hid (s.extract 0 m = S (hd (L s)) ∧ s.extract m n = S (gp (L s)) ∧ s.extract n s.size = S (rs (L s))) := by
          unfold Hid hd gp rs
          rw [hm2]
          exact ⟨X4.out, X5.out, X6.out⟩
        clear hm2
        have hsz : (s.extract m s.size).size ≤ 1000000 := by simp [ByteArray.size_extract]; omega
        obtain ⟨W2, cap2, hr2, hcap2, hcl2, hbl2⟩ := conv_bytes (s.extract m s.size) w'
        have c4 := rindent_any (s.extract m s.size) w'.heap.size cap2 W2 hsz hcap2 hcl2
        have Hb2 := hidden (Hb.out.trans (hbl2.mono Hb.out.size))
        obtain ⟨q2, hq2⟩ : ∃ q2, (s.extract m s.size).size = q2 := ⟨_, rfl⟩
        rw [hq2] at hr2 c4
        have hw2 : (m : Int) + ((pre (L (s.extract m s.size))).length : Nat) = (n : Int) := HN.out.symm
        have Hr2 := hidden hr2
        clear hr2 hcl2 hbl2 c1 c3 hcap2 hq2
        generalize (pre (L (s.extract m s.size))).length = z at *
        go_wp2_with fail
        rw [Hr2.out]
        simp only [Result.andThen]
        rw [Oper.upon_value]
        go_wp2_with fail
        refine c4.mono ?_
        rintro e' w'' ⟨rfl, rfl⟩
        clear Hr2 c4 hsz
        go_wp2_with fail
        go_quiet (fail)
        go_wp2
        go_ret3
        obtain ⟨f1, f2, f3⟩ := HF.out
        rw [← f1, ← f2, ← f3]
        exact ⟨rfl, below_dN Hb2.out nq⟩

end Go.Proofs.PlatenLeader
