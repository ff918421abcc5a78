/- The document's Items: what is laid out of a tree, place by place. -/
import Derived.Test.YtfakfgmengcndaaKL
namespace Go.Proofs.PlatenTree
open Go Go.RowKit Go.Shelf
open Go.Proofs.PlatenLayout (str str_size itC rowI rowI_app rowI_one rowI_len It IsItems isItems_of OkL OkIt row_slice)
set_option linter.unusedVariables false
set_option maxRecDepth 100000


set_option maxHeartbeats 8000000 in
theorem ritems_true {v : Value} {p : List Nat} {w : World} (hp : ∀ c ∈ p, c < 256) (hn : p.length ≤ 69000) (h : RowL w v p) :
    Calls Try.prog 16 #[v, .bool true] w fun e w' => ItRes true p w e w' ∧ Below w.heap.size w w' := by
  have cs := rtread_any true hp (by omega) h
  unfold ItRes
  cases hrd : rd true p with
  | none =>
    have hne := ansL_no hrd
    generalize ansL true p = o at *
    obtain ⟨T, at', er⟩ := o
    simp only at hne
    have z0 : ((er : Int) != 0) = true := by simp; omega
    clear h hrd hne
    go_enter Try.func16, Try.ntmps16
    go_wp2_with fail
    refine cs.mono ?_
    clear cs
    rintro e w' ⟨tv, rfl, ht, hb⟩
    go_wp2_with fail
    go_ret3
    exact ⟨rfl, hb⟩
  | some P =>
    obtain ⟨T, eT, hP, hbd⟩ := ansL_ok hrd
    have hne := rd_ne hrd
    have hTl : T.length ≤ 69000 := by
      have h1 : T.length = P.length := by rw [← hP, List.length_map]
      have h3 : P.length ≤ p.length := by
        exact read_cn sm_ok (c := ((0, 0) : Nat × Nat)) rfl (show read SM (0, 0) p = some P from hrd)
      omega
    rw [eT] at cs
    have HP := hidden hP
    have Hbd := hidden hbd
    have Hne := hidden hne
    have Har := hidden (fun j t hj => around hrd (j := j) (t := t) hj)
    have Hp := hidden hp
    have Hr := hidden h
    clear hP hbd hne hp h hrd eT
    obtain ⟨N, hN⟩ : ∃ N, T.length = N := ⟨_, rfl⟩
    have HN := hidden hN
    clear hN
    rw [HN.out] at hTl
    go_enter Try.func16, Try.ntmps16
    go_wp2_with fail
    refine cs.mono ?_
    clear cs
    rintro e w1 ⟨tv, rfl, ht, hb⟩
    obtain ⟨ta, tc, rfl, ht0⟩ := id ht
    clear ht0
    rw [HN.out]
    have HT := hidden ht
    have HB := hidden hb
    clear ht hb
    go_wp2_with fail
    go_loopw [10, 11] (fun lv i wr => ∃ q : Nat, q ≤ N ∧ i = .int .i64 (q : Nat) ∧ wr.ownsRow w1.heap.size 54 6 lv (itR true P q).length (rowI (itR true P q)) ∧ Below w1.heap.size w1 wr) (fun _ i _ => N - (intOf i).toNat)
    case atStart => exact ⟨0, Nat.zero_le _, rfl, World.ownsRow_nil _ _ _ _, Below.refl _ _⟩
    case round =>
      obtain ⟨q, hq, rfl, hown, hbe⟩ := hrel
      by_cases hlt : q < N
      · have hlz : (q : Int) < (N : Int) := by omega
        obtain ⟨t, hT⟩ : ∃ t, T[q]? = some t := ⟨_, List.getElem?_eq_getElem (by rw [HN.out]; exact hlt)⟩
        have hPq := map_get HP.out hT
        obtain ⟨tg, tc', e0, hcap, c0, c1, c2⟩ := tk_at (HT.out.below hbe) hT
        injection e0 with e1 e2 e3
        subst e1 e3
        clear e2
        have her := itR_succ (s := true) hPq
        obtain ⟨har1, har2, har3⟩ := Har.out q _ hPq
        have hbt := Hbd.out t (List.mem_of_getElem? hT)
        have hnet := Hne.out _ (List.mem_of_getElem? hPq)
        have hlen := itR_len true P q
        have hszr := hbe.size
        have hPN : P.length = N := by rw [← HP.out, List.length_map, HN.out]
        obtain ⟨k, a, m⟩ := t
        have hm1 : 1 ≤ m := by
          rcases Nat.eq_zero_or_pos m with rfl | g
          · exact absurd (by simp [pcs, sl]) hnet
          · exact g
        have hk6 : 1 ≤ k ∧ k ≤ 6 := har1.1
        have hkT : k ≠ 3 ∧ k ≠ 4 := by
          have := har1.2.2.2
          have e : (pcs p (k, a, m)).1 = k := rfl
          rw [e] at this
          exact har1.2.2.2.1 rfl
        have hpk : (q = 0 ∧ pkA P q = 0) ∨ ∃ r t', q = r + 1 ∧ T[r]? = some t' ∧ pkA P q = t'.1 := by
          rcases Nat.eq_zero_or_pos q with g | g
          · exact Or.inl ⟨g, by rw [g]; rfl⟩
          · obtain ⟨r, rfl⟩ : ∃ r, q = r + 1 := ⟨q - 1, by omega⟩
            obtain ⟨t', ht'⟩ : ∃ t', T[r]? = some t' := ⟨_, List.getElem?_eq_getElem (by rw [HN.out]; omega)⟩
            exact Or.inr ⟨r, t', rfl, ht', pk_at HP.out ht'⟩
        have hnk : k = 1 → ∃ t', T[q + 1]? = some t' ∧ nkA P q = t'.1 := by
          intro g
          have := har2 g
          obtain ⟨t', ht'⟩ : ∃ t', T[q + 1]? = some t' := ⟨_, List.getElem?_eq_getElem (by rw [HN.out]; omega)⟩
          exact ⟨t', ht', nk_at HP.out ht'⟩
        have hq0 : k = 2 → 0 < q := har3
        have hlk : pkA P q ≤ 6 := by
          unfold pkA
          by_cases g : q = 0
          · rw [if_pos g]; omega
          · rw [if_neg g]
            cases hg : P[q - 1]? with
            | none => simp
            | some x => have := (Har.out _ _ hg).1.1; simpa using this.2
        have hcn := fun j t' (hj : T[j]? = some t') (o : Obj) => tk_at (tk_alloc (HT.out.below hbe) o) hj
        have HW : Hid (RW w1 (wr.alloc (.cells #[.int .u8 (k : Nat), .int .i64 (a : Nat), .int .i64 (m : Nat)] 47)) u10 (itR true P q) wr.heap.size k a m) := ⟨hown.alloc _, hbe.alloc hszr _, heap_alloc_new _ _, hszr⟩
        have Er := hidden her
        simp only at c0 c1 c2
        rw [HN.out] at hcap
        have hNp : N ≤ 69000 := hTl
        have csay : ∀ (W : World), RowL W v p → Calls Try.prog 29 #[v, .agg #[.int .u8 (k : Nat), .int .i64 (a : Nat), .int .i64 (m : Nat)], .string (if k = 4 then ⟨#[32]⟩ else ⟨#[]⟩)] W fun e w' => e = .returned (.agg #[.int .u8 1, .string (str (sl p a m ++ if k = 4 then [32] else [])), .int .i64 0, .int .i64 0, .bool false, .bool false]) ∧ Below W.heap.size W w' :=
          fun W hW => say_any p (k, a, m) _ (if k = 4 then [32] else []) (by split <;> rfl) W Hp.out (by show k < 256; omega) (by omega) hm1 hbt hW (by split <;> simp)
        have ex : str (sl p a m ++ if k = 4 then [32] else []) = str (itx chn (pcs p (k, a, m))).tx := rfl
        have hit : (#[Value.int .u8 1, .string (str (itx chn (pcs p (k, a, m))).tx), .int .i64 0, .int .i64 0, .bool false, .bool false] : Array Value) = (itC (itx chn (pcs p (k, a, m)))).toArray := rfl
        obtain ⟨Y, hY⟩ : ∃ Y, str (sl p a m ++ if k = 4 then [32] else []) = Y := ⟨_, rfl⟩
        rw [← ex, hY] at hit
        have HI := hidden hit
        have HY := hidden hY
        have hemit : emit true P q (pcs p (k, a, m)) = pre true (pkA P q) (k, sl p a m) ++ (itx chn (pcs p (k, a, m)) :: post true (pkA P q) (k, sl p a m) (nkA P q)) := rfl
        generalize pkA P q = pk at *
        generalize nkA P q = nk at *
        generalize itR true P q = L at *
        clear hown hbe her har1 har2 har3 hnet hit ex hY hPq
        by_cases k1 : k = 1
        · obtain ⟨⟨k2, a2, m2⟩, ht2, hnt⟩ := hnk k1
          have hn1 : ∀ o, (wr.alloc o).cell? ⟨tg, (q + 1) * 3, none⟩ = some (.int .u8 (k2 : Nat)) := fun o => by
            obtain ⟨g, c, e, _, x, _⟩ := hcn (q + 1) _ ht2 o
            injection e with e1
            injection e1 with e1
            injection e1 with e1
            subst e1
            exact x
          have hlt2 : q + 1 < N := by
            have := (List.getElem?_eq_some_iff.1 ht2).1
            rw [HN.out] at this
            exact this
          have hq1 : (q : Int) + 1 < (N : Int) := by omega
          have hq1n : ((q : Int) + 1).toNat = q + 1 := by omega
          have hnt : nk = k2 := hnt
          clear ht2
          by_cases e2 : k2 = 2
          · rcases hpk with ⟨hqz, hpk0⟩ | ⟨r, ⟨k3, a3, m3⟩, hqr0, ht3, hpt⟩
            · have zk1 : ((k : Int) == 1) = true := by simp; omega
              have zk2 : ((k : Int) == 2) = false := by simp; omega
              have zk3 : ((k : Int) == 3) = false := by simp; omega
              have zk4 : ((k : Int) == 4) = false := by simp; omega
              have zn2 : ((k : Int) != 2) = true := by simp; omega
              simp only [if_neg (show ¬ k = 4 by omega)] at csay HY
              have zj5 : ((k2 : Int) == 2) = true := by simp; omega
              have hq00 : ¬ (0 : Int) < (q : Int) := by omega
              have He : Hid (emit true P q (pcs p (k, a, m)) = [itx chn (pcs p (k, a, m))]) := by
                rw [hemit, pre_s, post_s]
                rw [if_neg (show ¬ (k ≠ 2 ∧ (pk = 5 ∨ pk = 2)) by omega), if_neg (show ¬ (k = 1 ∧ nk ≠ 2) by omega), if_neg (show ¬ (k = 2 ∧ pk ≠ 1) by omega), if_neg (show ¬ (k = 3) by omega)]
                rfl
              have HW3 := HW
              obtain ⟨d0, d1, d2⟩ := HW3.out.c
              clear HW
              clear hnk hcn hq0 hT hlk hkT hk6 hm1 hbt hPN hemit hTl hnt e2 k1 hlt2 hpk0 hqz
              go_wp2_with fail
              refine (csay _ (Hr.out.below (HB.out.trans (HW3.out.bel.mono HB.out.size)))).mono ?_
              rintro e w4 ⟨rfl, hb4⟩
              have HW4 := hidden (HW3.out.below hb4)
              clear hb4 HW3 csay
              rw [HY.out]
              go_wp2_with (at_builtin; refine app_rw rfl (.tmp 116) (.tmp 120) rfl (HW4.out.alloc _) rfl _ _ (gap_of_new HI.out) rfl (by first | omega | (simp only [List.length_append, List.length_cons, List.length_nil]; omega)) (by simp) ?_)
              intro v5 w5 HW5
              obtain ⟨f0, f1, f2⟩ := HW5.out.c
              clear HW4
              go_wp2_with fail
              go_roundw
              case rel =>
                refine ⟨q + 1, by omega, by go_num, ?_, HW5.out.bel⟩
                have ho := HW5.out.own
                rw [Er.out, He.out]
                first | exact ho | simpa using ho
              case measure => simp [intOf]; omega
            · have hp1 : ∀ o, (wr.alloc o).cell? ⟨tg, r * 3, none⟩ = some (.int .u8 (k3 : Nat)) := fun o => by
                obtain ⟨g, c, e, _, x, _⟩ := hcn r _ ht3 o
                injection e with e1
                injection e1 with e1
                injection e1 with e1
                subst e1
                exact x
              have hqr : (q : Int) - 1 = (r : Int) := by omega
              have hrN : (r : Int) < (N : Int) := by omega
              have hpt : pk = k3 := hpt
              have hq00 : (0 : Int) < (q : Int) := by omega
              clear ht3
              by_cases e5 : k3 = 5
              · have zk1 : ((k : Int) == 1) = true := by simp; omega
                have zk2 : ((k : Int) == 2) = false := by simp; omega
                have zk3 : ((k : Int) == 3) = false := by simp; omega
                have zk4 : ((k : Int) == 4) = false := by simp; omega
                have zn2 : ((k : Int) != 2) = true := by simp; omega
                simp only [if_neg (show ¬ k = 4 by omega)] at csay HY
                have zj5 : ((k2 : Int) == 2) = true := by simp; omega
                have zj8 : ((k3 : Int) == 5) = true := by simp; omega
                have He : Hid (emit true P q (pcs p (k, a, m)) = [bk 1 0, itx chn (pcs p (k, a, m))]) := by
                  rw [hemit, pre_s, post_s]
                  rw [if_pos (show (k ≠ 2 ∧ (pk = 5 ∨ pk = 2)) by omega), if_neg (show ¬ (k = 1 ∧ nk ≠ 2) by omega), if_neg (show ¬ (k = 2 ∧ pk ≠ 1) by omega), if_neg (show ¬ (k = 3) by omega)]
                  rfl
                clear hnk hcn hq0 hT hlk hkT hk6 hm1 hbt hPN hemit hTl hnt e2 k1 hlt2 hqr0 hpt e5
                go_wp2_with (at_builtin; refine app_rw rfl (.tmp 88) (.tmp 90) rfl (HW.out.alloc _) rfl _ _ (gap_of_new2 (x := bk 1 0) rfl) rfl (by omega) (by simp) ?_)
                intro v3 w3 HW3
                obtain ⟨d0, d1, d2⟩ := HW3.out.c
                clear HW
                go_wp2_with fail
                refine (csay _ (Hr.out.below (HB.out.trans (HW3.out.bel.mono HB.out.size)))).mono ?_
                rintro e w4 ⟨rfl, hb4⟩
                have HW4 := hidden (HW3.out.below hb4)
                clear hb4 HW3 csay
                rw [HY.out]
                go_wp2_with (at_builtin; refine app_rw rfl (.tmp 116) (.tmp 120) rfl (HW4.out.alloc _) rfl _ _ (gap_of_new HI.out) rfl (by first | omega | (simp only [List.length_append, List.length_cons, List.length_nil]; omega)) (by simp) ?_)
                intro v5 w5 HW5
                obtain ⟨f0, f1, f2⟩ := HW5.out.c
                clear HW4
                go_wp2_with fail
                go_roundw
                case rel =>
                  refine ⟨q + 1, by omega, by go_num, ?_, HW5.out.bel⟩
                  have ho := HW5.out.own
                  rw [Er.out, He.out]
                  first | exact ho | simpa using ho
                case measure => simp [intOf]; omega
              · by_cases e6 : k3 = 2
                · have zk1 : ((k : Int) == 1) = true := by simp; omega
                  have zk2 : ((k : Int) == 2) = false := by simp; omega
                  have zk3 : ((k : Int) == 3) = false := by simp; omega
                  have zk4 : ((k : Int) == 4) = false := by simp; omega
                  have zn2 : ((k : Int) != 2) = true := by simp; omega
                  simp only [if_neg (show ¬ k = 4 by omega)] at csay HY
                  have zj5 : ((k2 : Int) == 2) = true := by simp; omega
                  have zj8 : ((k3 : Int) == 5) = false := by simp; omega
                  have zj9 : ((k3 : Int) == 2) = true := by simp; omega
                  have He : Hid (emit true P q (pcs p (k, a, m)) = [bk 1 0, itx chn (pcs p (k, a, m))]) := by
                    rw [hemit, pre_s, post_s]
                    rw [if_pos (show (k ≠ 2 ∧ (pk = 5 ∨ pk = 2)) by omega), if_neg (show ¬ (k = 1 ∧ nk ≠ 2) by omega), if_neg (show ¬ (k = 2 ∧ pk ≠ 1) by omega), if_neg (show ¬ (k = 3) by omega)]
                    rfl
                  clear hnk hcn hq0 hT hlk hkT hk6 hm1 hbt hPN hemit hTl hnt e2 k1 hlt2 hqr0 hpt e5 e6
                  go_wp2_with (at_builtin; refine app_rw rfl (.tmp 88) (.tmp 90) rfl (HW.out.alloc _) rfl _ _ (gap_of_new2 (x := bk 1 0) rfl) rfl (by omega) (by simp) ?_)
                  intro v3 w3 HW3
                  obtain ⟨d0, d1, d2⟩ := HW3.out.c
                  clear HW
                  go_wp2_with fail
                  refine (csay _ (Hr.out.below (HB.out.trans (HW3.out.bel.mono HB.out.size)))).mono ?_
                  rintro e w4 ⟨rfl, hb4⟩
                  have HW4 := hidden (HW3.out.below hb4)
                  clear hb4 HW3 csay
                  rw [HY.out]
                  go_wp2_with (at_builtin; refine app_rw rfl (.tmp 116) (.tmp 120) rfl (HW4.out.alloc _) rfl _ _ (gap_of_new HI.out) rfl (by first | omega | (simp only [List.length_append, List.length_cons, List.length_nil]; omega)) (by simp) ?_)
                  intro v5 w5 HW5
                  obtain ⟨f0, f1, f2⟩ := HW5.out.c
                  clear HW4
                  go_wp2_with fail
                  go_roundw
                  case rel =>
                    refine ⟨q + 1, by omega, by go_num, ?_, HW5.out.bel⟩
                    have ho := HW5.out.own
                    rw [Er.out, He.out]
                    first | exact ho | simpa using ho
                  case measure => simp [intOf]; omega
                · have zk1 : ((k : Int) == 1) = true := by simp; omega
                  have zk2 : ((k : Int) == 2) = false := by simp; omega
                  have zk3 : ((k : Int) == 3) = false := by simp; omega
                  have zk4 : ((k : Int) == 4) = false := by simp; omega
                  have zn2 : ((k : Int) != 2) = true := by simp; omega
                  simp only [if_neg (show ¬ k = 4 by omega)] at csay HY
                  have zj5 : ((k2 : Int) == 2) = true := by simp; omega
                  have zj8 : ((k3 : Int) == 5) = false := by simp; omega
                  have zj9 : ((k3 : Int) == 2) = false := by simp; omega
                  have He : Hid (emit true P q (pcs p (k, a, m)) = [itx chn (pcs p (k, a, m))]) := by
                    rw [hemit, pre_s, post_s]
                    rw [if_neg (show ¬ (k ≠ 2 ∧ (pk = 5 ∨ pk = 2)) by omega), if_neg (show ¬ (k = 1 ∧ nk ≠ 2) by omega), if_neg (show ¬ (k = 2 ∧ pk ≠ 1) by omega), if_neg (show ¬ (k = 3) by omega)]
                    rfl
                  have HW3 := HW
                  obtain ⟨d0, d1, d2⟩ := HW3.out.c
                  clear HW
                  clear hnk hcn hq0 hT hlk hkT hk6 hm1 hbt hPN hemit hTl hnt e2 k1 hlt2 hqr0 hpt e5 e6
                  go_wp2_with fail
                  refine (csay _ (Hr.out.below (HB.out.trans (HW3.out.bel.mono HB.out.size)))).mono ?_
                  rintro e w4 ⟨rfl, hb4⟩
                  have HW4 := hidden (HW3.out.below hb4)
                  clear hb4 HW3 csay
                  rw [HY.out]
                  go_wp2_with (at_builtin; refine app_rw rfl (.tmp 116) (.tmp 120) rfl (HW4.out.alloc _) rfl _ _ (gap_of_new HI.out) rfl (by first | omega | (simp only [List.length_append, List.length_cons, List.length_nil]; omega)) (by simp) ?_)
                  intro v5 w5 HW5
                  obtain ⟨f0, f1, f2⟩ := HW5.out.c
                  clear HW4
                  go_wp2_with fail
                  go_roundw
                  case rel =>
                    refine ⟨q + 1, by omega, by go_num, ?_, HW5.out.bel⟩
                    have ho := HW5.out.own
                    rw [Er.out, He.out]
                    first | exact ho | simpa using ho
                  case measure => simp [intOf]; omega
          · rcases hpk with ⟨hqz, hpk0⟩ | ⟨r, ⟨k3, a3, m3⟩, hqr0, ht3, hpt⟩
            · have zk1 : ((k : Int) == 1) = true := by simp; omega
              have zk2 : ((k : Int) == 2) = false := by simp; omega
              have zk3 : ((k : Int) == 3) = false := by simp; omega
              have zk4 : ((k : Int) == 4) = false := by simp; omega
              have zn2 : ((k : Int) != 2) = true := by simp; omega
              simp only [if_neg (show ¬ k = 4 by omega)] at csay HY
              have zj5 : ((k2 : Int) == 2) = false := by simp; omega
              have hq00 : ¬ (0 : Int) < (q : Int) := by omega
              have He : Hid (emit true P q (pcs p (k, a, m)) = [itx chn (pcs p (k, a, m)), bgn 0 true false]) := by
                rw [hemit, pre_s, post_s]
                rw [if_neg (show ¬ (k ≠ 2 ∧ (pk = 5 ∨ pk = 2)) by omega), if_pos (show (k = 1 ∧ nk ≠ 2) by omega)]
                rfl
              have HW3 := HW
              obtain ⟨d0, d1, d2⟩ := HW3.out.c
              clear HW
              clear hnk hcn hq0 hT hlk hkT hk6 hm1 hbt hPN hemit hTl hnt e2 k1 hlt2 hpk0 hqz
              go_wp2_with fail
              refine (csay _ (Hr.out.below (HB.out.trans (HW3.out.bel.mono HB.out.size)))).mono ?_
              rintro e w4 ⟨rfl, hb4⟩
              have HW4 := hidden (HW3.out.below hb4)
              clear hb4 HW3 csay
              rw [HY.out]
              go_wp2_with (at_builtin; refine app_rw rfl (.tmp 116) (.tmp 120) rfl (HW4.out.alloc _) rfl _ _ (gap_of_new HI.out) rfl (by first | omega | (simp only [List.length_append, List.length_cons, List.length_nil]; omega)) (by simp) ?_)
              intro v5 w5 HW5
              obtain ⟨f0, f1, f2⟩ := HW5.out.c
              clear HW4
              go_wp2_with (at_builtin; refine app_rw rfl (.tmp 133) (.tmp 135) rfl (HW5.out.alloc _) rfl _ _ (gap_of_new (x := bgn 0 true false) rfl) rfl (by first | omega | (simp only [List.length_append, List.length_cons, List.length_nil]; omega)) (by simp) ?_)
              intro v6 w6 HW6
              obtain ⟨g0, g1, g2⟩ := HW6.out.c
              clear HW5
              go_wp2_with fail
              go_roundw
              case rel =>
                refine ⟨q + 1, by omega, by go_num, ?_, HW6.out.bel⟩
                have ho := HW6.out.own
                rw [Er.out, He.out]
                first | exact ho | simpa using ho
              case measure => simp [intOf]; omega
            · have hp1 : ∀ o, (wr.alloc o).cell? ⟨tg, r * 3, none⟩ = some (.int .u8 (k3 : Nat)) := fun o => by
                obtain ⟨g, c, e, _, x, _⟩ := hcn r _ ht3 o
                injection e with e1
                injection e1 with e1
                injection e1 with e1
                subst e1
                exact x
              have hqr : (q : Int) - 1 = (r : Int) := by omega
              have hrN : (r : Int) < (N : Int) := by omega
              have hpt : pk = k3 := hpt
              have hq00 : (0 : Int) < (q : Int) := by omega
              clear ht3
              by_cases e5 : k3 = 5
              · have zk1 : ((k : Int) == 1) = true := by simp; omega
                have zk2 : ((k : Int) == 2) = false := by simp; omega
                have zk3 : ((k : Int) == 3) = false := by simp; omega
                have zk4 : ((k : Int) == 4) = false := by simp; omega
                have zn2 : ((k : Int) != 2) = true := by simp; omega
                simp only [if_neg (show ¬ k = 4 by omega)] at csay HY
                have zj5 : ((k2 : Int) == 2) = false := by simp; omega
                have zj8 : ((k3 : Int) == 5) = true := by simp; omega
                have He : Hid (emit true P q (pcs p (k, a, m)) = [bk 1 0, itx chn (pcs p (k, a, m)), bgn 0 true false]) := by
                  rw [hemit, pre_s, post_s]
                  rw [if_pos (show (k ≠ 2 ∧ (pk = 5 ∨ pk = 2)) by omega), if_pos (show (k = 1 ∧ nk ≠ 2) by omega)]
                  rfl
                clear hnk hcn hq0 hT hlk hkT hk6 hm1 hbt hPN hemit hTl hnt e2 k1 hlt2 hqr0 hpt e5
                go_wp2_with (at_builtin; refine app_rw rfl (.tmp 88) (.tmp 90) rfl (HW.out.alloc _) rfl _ _ (gap_of_new2 (x := bk 1 0) rfl) rfl (by omega) (by simp) ?_)
                intro v3 w3 HW3
                obtain ⟨d0, d1, d2⟩ := HW3.out.c
                clear HW
                go_wp2_with fail
                refine (csay _ (Hr.out.below (HB.out.trans (HW3.out.bel.mono HB.out.size)))).mono ?_
                rintro e w4 ⟨rfl, hb4⟩
                have HW4 := hidden (HW3.out.below hb4)
                clear hb4 HW3 csay
                rw [HY.out]
                go_wp2_with (at_builtin; refine app_rw rfl (.tmp 116) (.tmp 120) rfl (HW4.out.alloc _) rfl _ _ (gap_of_new HI.out) rfl (by first | omega | (simp only [List.length_append, List.length_cons, List.length_nil]; omega)) (by simp) ?_)
                intro v5 w5 HW5
                obtain ⟨f0, f1, f2⟩ := HW5.out.c
                clear HW4
                go_wp2_with (at_builtin; refine app_rw rfl (.tmp 133) (.tmp 135) rfl (HW5.out.alloc _) rfl _ _ (gap_of_new (x := bgn 0 true false) rfl) rfl (by first | omega | (simp only [List.length_append, List.length_cons, List.length_nil]; omega)) (by simp) ?_)
                intro v6 w6 HW6
                obtain ⟨g0, g1, g2⟩ := HW6.out.c
                clear HW5
                go_wp2_with fail
                go_roundw
                case rel =>
                  refine ⟨q + 1, by omega, by go_num, ?_, HW6.out.bel⟩
                  have ho := HW6.out.own
                  rw [Er.out, He.out]
                  first | exact ho | simpa using ho
                case measure => simp [intOf]; omega
              · by_cases e6 : k3 = 2
                · have zk1 : ((k : Int) == 1) = true := by simp; omega
                  have zk2 : ((k : Int) == 2) = false := by simp; omega
                  have zk3 : ((k : Int) == 3) = false := by simp; omega
                  have zk4 : ((k : Int) == 4) = false := by simp; omega
                  have zn2 : ((k : Int) != 2) = true := by simp; omega
                  simp only [if_neg (show ¬ k = 4 by omega)] at csay HY
                  have zj5 : ((k2 : Int) == 2) = false := by simp; omega
                  have zj8 : ((k3 : Int) == 5) = false := by simp; omega
                  have zj9 : ((k3 : Int) == 2) = true := by simp; omega
                  have He : Hid (emit true P q (pcs p (k, a, m)) = [bk 1 0, itx chn (pcs p (k, a, m)), bgn 0 true false]) := by
                    rw [hemit, pre_s, post_s]
                    rw [if_pos (show (k ≠ 2 ∧ (pk = 5 ∨ pk = 2)) by omega), if_pos (show (k = 1 ∧ nk ≠ 2) by omega)]
                    rfl
                  clear hnk hcn hq0 hT hlk hkT hk6 hm1 hbt hPN hemit hTl hnt e2 k1 hlt2 hqr0 hpt e5 e6
                  go_wp2_with (at_builtin; refine app_rw rfl (.tmp 88) (.tmp 90) rfl (HW.out.alloc _) rfl _ _ (gap_of_new2 (x := bk 1 0) rfl) rfl (by omega) (by simp) ?_)
                  intro v3 w3 HW3
                  obtain ⟨d0, d1, d2⟩ := HW3.out.c
                  clear HW
                  go_wp2_with fail
                  refine (csay _ (Hr.out.below (HB.out.trans (HW3.out.bel.mono HB.out.size)))).mono ?_
                  rintro e w4 ⟨rfl, hb4⟩
                  have HW4 := hidden (HW3.out.below hb4)
                  clear hb4 HW3 csay
                  rw [HY.out]
                  go_wp2_with (at_builtin; refine app_rw rfl (.tmp 116) (.tmp 120) rfl (HW4.out.alloc _) rfl _ _ (gap_of_new HI.out) rfl (by first | omega | (simp only [List.length_append, List.length_cons, List.length_nil]; omega)) (by simp) ?_)
                  intro v5 w5 HW5
                  obtain ⟨f0, f1, f2⟩ := HW5.out.c
                  clear HW4
                  go_wp2_with (at_builtin; refine app_rw rfl (.tmp 133) (.tmp 135) rfl (HW5.out.alloc _) rfl _ _ (gap_of_new (x := bgn 0 true false) rfl) rfl (by first | omega | (simp only [List.length_append, List.length_cons, List.length_nil]; omega)) (by simp) ?_)
                  intro v6 w6 HW6
                  obtain ⟨g0, g1, g2⟩ := HW6.out.c
                  clear HW5
                  go_wp2_with fail
                  go_roundw
                  case rel =>
                    refine ⟨q + 1, by omega, by go_num, ?_, HW6.out.bel⟩
                    have ho := HW6.out.own
                    rw [Er.out, He.out]
                    first | exact ho | simpa using ho
                  case measure => simp [intOf]; omega
                · have zk1 : ((k : Int) == 1) = true := by simp; omega
                  have zk2 : ((k : Int) == 2) = false := by simp; omega
                  have zk3 : ((k : Int) == 3) = false := by simp; omega
                  have zk4 : ((k : Int) == 4) = false := by simp; omega
                  have zn2 : ((k : Int) != 2) = true := by simp; omega
                  simp only [if_neg (show ¬ k = 4 by omega)] at csay HY
                  have zj5 : ((k2 : Int) == 2) = false := by simp; omega
                  have zj8 : ((k3 : Int) == 5) = false := by simp; omega
                  have zj9 : ((k3 : Int) == 2) = false := by simp; omega
                  have He : Hid (emit true P q (pcs p (k, a, m)) = [itx chn (pcs p (k, a, m)), bgn 0 true false]) := by
                    rw [hemit, pre_s, post_s]
                    rw [if_neg (show ¬ (k ≠ 2 ∧ (pk = 5 ∨ pk = 2)) by omega), if_pos (show (k = 1 ∧ nk ≠ 2) by omega)]
                    rfl
                  have HW3 := HW
                  obtain ⟨d0, d1, d2⟩ := HW3.out.c
                  clear HW
                  clear hnk hcn hq0 hT hlk hkT hk6 hm1 hbt hPN hemit hTl hnt e2 k1 hlt2 hqr0 hpt e5 e6
                  go_wp2_with fail
                  refine (csay _ (Hr.out.below (HB.out.trans (HW3.out.bel.mono HB.out.size)))).mono ?_
                  rintro e w4 ⟨rfl, hb4⟩
                  have HW4 := hidden (HW3.out.below hb4)
                  clear hb4 HW3 csay
                  rw [HY.out]
                  go_wp2_with (at_builtin; refine app_rw rfl (.tmp 116) (.tmp 120) rfl (HW4.out.alloc _) rfl _ _ (gap_of_new HI.out) rfl (by first | omega | (simp only [List.length_append, List.length_cons, List.length_nil]; omega)) (by simp) ?_)
                  intro v5 w5 HW5
                  obtain ⟨f0, f1, f2⟩ := HW5.out.c
                  clear HW4
                  go_wp2_with (at_builtin; refine app_rw rfl (.tmp 133) (.tmp 135) rfl (HW5.out.alloc _) rfl _ _ (gap_of_new (x := bgn 0 true false) rfl) rfl (by first | omega | (simp only [List.length_append, List.length_cons, List.length_nil]; omega)) (by simp) ?_)
                  intro v6 w6 HW6
                  obtain ⟨g0, g1, g2⟩ := HW6.out.c
                  clear HW5
                  go_wp2_with fail
                  go_roundw
                  case rel =>
                    refine ⟨q + 1, by omega, by go_num, ?_, HW6.out.bel⟩
                    have ho := HW6.out.own
                    rw [Er.out, He.out]
                    first | exact ho | simpa using ho
                  case measure => simp [intOf]; omega
        · by_cases k2 : k = 2
          · rcases hpk with ⟨g, _⟩ | ⟨r, ⟨k3, a3, m3⟩, hqr0, ht3, hpt⟩
            · have := hq0 k2; omega
            have hp1 : ∀ o, (wr.alloc o).cell? ⟨tg, r * 3, none⟩ = some (.int .u8 (k3 : Nat)) := fun o => by
              obtain ⟨g, c, e, _, x, _⟩ := hcn r _ ht3 o
              injection e with e1
              injection e1 with e1
              injection e1 with e1
              subst e1
              exact x
            have hqr : (q : Int) - 1 = (r : Int) := by omega
            have hrN : (r : Int) < (N : Int) := by omega
            have hpt : pk = k3 := hpt
            have hq00 : (0 : Int) < (q : Int) := by omega
            clear ht3
            by_cases e3 : k3 = 1
            · have zk1 : ((k : Int) == 1) = false := by simp; omega
              have zk2 : ((k : Int) == 2) = true := by simp; omega
              have zk3 : ((k : Int) == 3) = false := by simp; omega
              have zk4 : ((k : Int) == 4) = false := by simp; omega
              have zn2 : ((k : Int) != 2) = false := by simp; omega
              simp only [if_neg (show ¬ k = 4 by omega)] at csay HY
              have zj6 : ((k3 : Int) == 1) = true := by simp; omega
              have He : Hid (emit true P q (pcs p (k, a, m)) = [itx chn (pcs p (k, a, m))]) := by
                rw [hemit, pre_s, post_s]
                rw [if_neg (show ¬ (k ≠ 2 ∧ (pk = 5 ∨ pk = 2)) by omega), if_neg (show ¬ (k = 1 ∧ nk ≠ 2) by omega), if_neg (show ¬ (k = 2 ∧ pk ≠ 1) by omega), if_neg (show ¬ (k = 3) by omega)]
                rfl
              have HW3 := HW
              obtain ⟨d0, d1, d2⟩ := HW3.out.c
              clear HW
              clear hnk hcn hq0 hT hlk hkT hk6 hm1 hbt hPN hemit hTl hqr0 hpt e3 k1 k2
              go_wp2_with fail
              refine (csay _ (Hr.out.below (HB.out.trans (HW3.out.bel.mono HB.out.size)))).mono ?_
              rintro e w4 ⟨rfl, hb4⟩
              have HW4 := hidden (HW3.out.below hb4)
              clear hb4 HW3 csay
              rw [HY.out]
              go_wp2_with (at_builtin; refine app_rw rfl (.tmp 116) (.tmp 120) rfl (HW4.out.alloc _) rfl _ _ (gap_of_new HI.out) rfl (by first | omega | (simp only [List.length_append, List.length_cons, List.length_nil]; omega)) (by simp) ?_)
              intro v5 w5 HW5
              obtain ⟨f0, f1, f2⟩ := HW5.out.c
              clear HW4
              go_wp2_with fail
              go_roundw
              case rel =>
                refine ⟨q + 1, by omega, by go_num, ?_, HW5.out.bel⟩
                have ho := HW5.out.own
                rw [Er.out, He.out]
                first | exact ho | simpa using ho
              case measure => simp [intOf]; omega
            · have zk1 : ((k : Int) == 1) = false := by simp; omega
              have zk2 : ((k : Int) == 2) = true := by simp; omega
              have zk3 : ((k : Int) == 3) = false := by simp; omega
              have zk4 : ((k : Int) == 4) = false := by simp; omega
              have zn2 : ((k : Int) != 2) = false := by simp; omega
              simp only [if_neg (show ¬ k = 4 by omega)] at csay HY
              have zj6 : ((k3 : Int) == 1) = false := by simp; omega
              have He : Hid (emit true P q (pcs p (k, a, m)) = [itx chn (pcs p (k, a, m)), en]) := by
                rw [hemit, pre_s, post_s]
                rw [if_neg (show ¬ (k ≠ 2 ∧ (pk = 5 ∨ pk = 2)) by omega), if_neg (show ¬ (k = 1 ∧ nk ≠ 2) by omega), if_pos (show (k = 2 ∧ pk ≠ 1) by omega)]
                rfl
              have HW3 := HW
              obtain ⟨d0, d1, d2⟩ := HW3.out.c
              clear HW
              clear hnk hcn hq0 hT hlk hkT hk6 hm1 hbt hPN hemit hTl hqr0 hpt e3 k1 k2
              go_wp2_with fail
              refine (csay _ (Hr.out.below (HB.out.trans (HW3.out.bel.mono HB.out.size)))).mono ?_
              rintro e w4 ⟨rfl, hb4⟩
              have HW4 := hidden (HW3.out.below hb4)
              clear hb4 HW3 csay
              rw [HY.out]
              go_wp2_with (at_builtin; refine app_rw rfl (.tmp 116) (.tmp 120) rfl (HW4.out.alloc _) rfl _ _ (gap_of_new HI.out) rfl (by first | omega | (simp only [List.length_append, List.length_cons, List.length_nil]; omega)) (by simp) ?_)
              intro v5 w5 HW5
              obtain ⟨f0, f1, f2⟩ := HW5.out.c
              clear HW4
              go_wp2_with (at_builtin; refine app_rw rfl (.tmp 158) (.tmp 160) rfl (HW5.out.alloc _) rfl _ _ (gap_of_new (x := en) rfl) rfl (by first | omega | (simp only [List.length_append, List.length_cons, List.length_nil]; omega)) (by simp) ?_)
              intro v6 w6 HW6
              obtain ⟨g0, g1, g2⟩ := HW6.out.c
              clear HW5
              go_wp2_with fail
              go_roundw
              case rel =>
                refine ⟨q + 1, by omega, by go_num, ?_, HW6.out.bel⟩
                have ho := HW6.out.own
                rw [Er.out, He.out]
                first | exact ho | simpa using ho
              case measure => simp [intOf]; omega
          · rcases hpk with ⟨hqz, hpk0⟩ | ⟨r, ⟨k3, a3, m3⟩, hqr0, ht3, hpt⟩
            · clear hnk
              have zk1 : ((k : Int) == 1) = false := by simp; omega
              have zk2 : ((k : Int) == 2) = false := by simp; omega
              have zk3 : ((k : Int) == 3) = false := by simp; omega
              have zk4 : ((k : Int) == 4) = false := by simp; omega
              have zn2 : ((k : Int) != 2) = true := by simp; omega
              simp only [if_neg (show ¬ k = 4 by omega)] at csay HY
              have hq00 : ¬ (0 : Int) < (q : Int) := by omega
              have He : Hid (emit true P q (pcs p (k, a, m)) = [itx chn (pcs p (k, a, m))]) := by
                rw [hemit, pre_s, post_s]
                rw [if_neg (show ¬ (k ≠ 2 ∧ (pk = 5 ∨ pk = 2)) by omega), if_neg (show ¬ (k = 1 ∧ nk ≠ 2) by omega), if_neg (show ¬ (k = 2 ∧ pk ≠ 1) by omega), if_neg (show ¬ (k = 3) by omega)]
                rfl
              have HW3 := HW
              obtain ⟨d0, d1, d2⟩ := HW3.out.c
              clear HW
              clear hcn hq0 hT hlk hkT hk6 hm1 hbt hPN hemit hTl k1 k2 hpk0 hqz
              go_wp2_with fail
              refine (csay _ (Hr.out.below (HB.out.trans (HW3.out.bel.mono HB.out.size)))).mono ?_
              rintro e w4 ⟨rfl, hb4⟩
              have HW4 := hidden (HW3.out.below hb4)
              clear hb4 HW3 csay
              rw [HY.out]
              go_wp2_with (at_builtin; refine app_rw rfl (.tmp 116) (.tmp 120) rfl (HW4.out.alloc _) rfl _ _ (gap_of_new HI.out) rfl (by first | omega | (simp only [List.length_append, List.length_cons, List.length_nil]; omega)) (by simp) ?_)
              intro v5 w5 HW5
              obtain ⟨f0, f1, f2⟩ := HW5.out.c
              clear HW4
              go_wp2_with fail
              go_roundw
              case rel =>
                refine ⟨q + 1, by omega, by go_num, ?_, HW5.out.bel⟩
                have ho := HW5.out.own
                rw [Er.out, He.out]
                first | exact ho | simpa using ho
              case measure => simp [intOf]; omega
            · have hp1 : ∀ o, (wr.alloc o).cell? ⟨tg, r * 3, none⟩ = some (.int .u8 (k3 : Nat)) := fun o => by
                obtain ⟨g, c, e, _, x, _⟩ := hcn r _ ht3 o
                injection e with e1
                injection e1 with e1
                injection e1 with e1
                subst e1
                exact x
              have hqr : (q : Int) - 1 = (r : Int) := by omega
              have hrN : (r : Int) < (N : Int) := by omega
              have hpt : pk = k3 := hpt
              have hq00 : (0 : Int) < (q : Int) := by omega
              clear ht3
              by_cases e5 : k3 = 5
              · clear hnk
                have zk1 : ((k : Int) == 1) = false := by simp; omega
                have zk2 : ((k : Int) == 2) = false := by simp; omega
                have zk3 : ((k : Int) == 3) = false := by simp; omega
                have zk4 : ((k : Int) == 4) = false := by simp; omega
                have zn2 : ((k : Int) != 2) = true := by simp; omega
                simp only [if_neg (show ¬ k = 4 by omega)] at csay HY
                have zj8 : ((k3 : Int) == 5) = true := by simp; omega
                have He : Hid (emit true P q (pcs p (k, a, m)) = [bk 1 0, itx chn (pcs p (k, a, m))]) := by
                  rw [hemit, pre_s, post_s]
                  rw [if_pos (show (k ≠ 2 ∧ (pk = 5 ∨ pk = 2)) by omega), if_neg (show ¬ (k = 1 ∧ nk ≠ 2) by omega), if_neg (show ¬ (k = 2 ∧ pk ≠ 1) by omega), if_neg (show ¬ (k = 3) by omega)]
                  rfl
                clear hcn hq0 hT hlk hkT hk6 hm1 hbt hPN hemit hTl k1 k2 hqr0 hpt e5
                go_wp2_with (at_builtin; refine app_rw rfl (.tmp 88) (.tmp 90) rfl (HW.out.alloc _) rfl _ _ (gap_of_new2 (x := bk 1 0) rfl) rfl (by omega) (by simp) ?_)
                intro v3 w3 HW3
                obtain ⟨d0, d1, d2⟩ := HW3.out.c
                clear HW
                go_wp2_with fail
                refine (csay _ (Hr.out.below (HB.out.trans (HW3.out.bel.mono HB.out.size)))).mono ?_
                rintro e w4 ⟨rfl, hb4⟩
                have HW4 := hidden (HW3.out.below hb4)
                clear hb4 HW3 csay
                rw [HY.out]
                go_wp2_with (at_builtin; refine app_rw rfl (.tmp 116) (.tmp 120) rfl (HW4.out.alloc _) rfl _ _ (gap_of_new HI.out) rfl (by first | omega | (simp only [List.length_append, List.length_cons, List.length_nil]; omega)) (by simp) ?_)
                intro v5 w5 HW5
                obtain ⟨f0, f1, f2⟩ := HW5.out.c
                clear HW4
                go_wp2_with fail
                go_roundw
                case rel =>
                  refine ⟨q + 1, by omega, by go_num, ?_, HW5.out.bel⟩
                  have ho := HW5.out.own
                  rw [Er.out, He.out]
                  first | exact ho | simpa using ho
                case measure => simp [intOf]; omega
              · by_cases e6 : k3 = 2
                · clear hnk
                  have zk1 : ((k : Int) == 1) = false := by simp; omega
                  have zk2 : ((k : Int) == 2) = false := by simp; omega
                  have zk3 : ((k : Int) == 3) = false := by simp; omega
                  have zk4 : ((k : Int) == 4) = false := by simp; omega
                  have zn2 : ((k : Int) != 2) = true := by simp; omega
                  simp only [if_neg (show ¬ k = 4 by omega)] at csay HY
                  have zj8 : ((k3 : Int) == 5) = false := by simp; omega
                  have zj9 : ((k3 : Int) == 2) = true := by simp; omega
                  have He : Hid (emit true P q (pcs p (k, a, m)) = [bk 1 0, itx chn (pcs p (k, a, m))]) := by
                    rw [hemit, pre_s, post_s]
                    rw [if_pos (show (k ≠ 2 ∧ (pk = 5 ∨ pk = 2)) by omega), if_neg (show ¬ (k = 1 ∧ nk ≠ 2) by omega), if_neg (show ¬ (k = 2 ∧ pk ≠ 1) by omega), if_neg (show ¬ (k = 3) by omega)]
                    rfl
                  clear hcn hq0 hT hlk hkT hk6 hm1 hbt hPN hemit hTl k1 k2 hqr0 hpt e5 e6
                  go_wp2_with (at_builtin; refine app_rw rfl (.tmp 88) (.tmp 90) rfl (HW.out.alloc _) rfl _ _ (gap_of_new2 (x := bk 1 0) rfl) rfl (by omega) (by simp) ?_)
                  intro v3 w3 HW3
                  obtain ⟨d0, d1, d2⟩ := HW3.out.c
                  clear HW
                  go_wp2_with fail
                  refine (csay _ (Hr.out.below (HB.out.trans (HW3.out.bel.mono HB.out.size)))).mono ?_
                  rintro e w4 ⟨rfl, hb4⟩
                  have HW4 := hidden (HW3.out.below hb4)
                  clear hb4 HW3 csay
                  rw [HY.out]
                  go_wp2_with (at_builtin; refine app_rw rfl (.tmp 116) (.tmp 120) rfl (HW4.out.alloc _) rfl _ _ (gap_of_new HI.out) rfl (by first | omega | (simp only [List.length_append, List.length_cons, List.length_nil]; omega)) (by simp) ?_)
                  intro v5 w5 HW5
                  obtain ⟨f0, f1, f2⟩ := HW5.out.c
                  clear HW4
                  go_wp2_with fail
                  go_roundw
                  case rel =>
                    refine ⟨q + 1, by omega, by go_num, ?_, HW5.out.bel⟩
                    have ho := HW5.out.own
                    rw [Er.out, He.out]
                    first | exact ho | simpa using ho
                  case measure => simp [intOf]; omega
                · clear hnk
                  have zk1 : ((k : Int) == 1) = false := by simp; omega
                  have zk2 : ((k : Int) == 2) = false := by simp; omega
                  have zk3 : ((k : Int) == 3) = false := by simp; omega
                  have zk4 : ((k : Int) == 4) = false := by simp; omega
                  have zn2 : ((k : Int) != 2) = true := by simp; omega
                  simp only [if_neg (show ¬ k = 4 by omega)] at csay HY
                  have zj8 : ((k3 : Int) == 5) = false := by simp; omega
                  have zj9 : ((k3 : Int) == 2) = false := by simp; omega
                  have He : Hid (emit true P q (pcs p (k, a, m)) = [itx chn (pcs p (k, a, m))]) := by
                    rw [hemit, pre_s, post_s]
                    rw [if_neg (show ¬ (k ≠ 2 ∧ (pk = 5 ∨ pk = 2)) by omega), if_neg (show ¬ (k = 1 ∧ nk ≠ 2) by omega), if_neg (show ¬ (k = 2 ∧ pk ≠ 1) by omega), if_neg (show ¬ (k = 3) by omega)]
                    rfl
                  have HW3 := HW
                  obtain ⟨d0, d1, d2⟩ := HW3.out.c
                  clear HW
                  clear hcn hq0 hT hlk hkT hk6 hm1 hbt hPN hemit hTl k1 k2 hqr0 hpt e5 e6
                  go_wp2_with fail
                  refine (csay _ (Hr.out.below (HB.out.trans (HW3.out.bel.mono HB.out.size)))).mono ?_
                  rintro e w4 ⟨rfl, hb4⟩
                  have HW4 := hidden (HW3.out.below hb4)
                  clear hb4 HW3 csay
                  rw [HY.out]
                  go_wp2_with (at_builtin; refine app_rw rfl (.tmp 116) (.tmp 120) rfl (HW4.out.alloc _) rfl _ _ (gap_of_new HI.out) rfl (by first | omega | (simp only [List.length_append, List.length_cons, List.length_nil]; omega)) (by simp) ?_)
                  intro v5 w5 HW5
                  obtain ⟨f0, f1, f2⟩ := HW5.out.c
                  clear HW4
                  go_wp2_with fail
                  go_roundw
                  case rel =>
                    refine ⟨q + 1, by omega, by go_num, ?_, HW5.out.bel⟩
                    have ho := HW5.out.own
                    rw [Er.out, He.out]
                    first | exact ho | simpa using ho
                  case measure => simp [intOf]; omega
      · have hqN : q = N := by omega
        have hlz : ¬ ((q : Int) < (N : Int)) := by omega
        have e : itR true P q = itms chn true 0 P := by
          rw [hqN, ← HN.out, show T.length = P.length by rw [← HP.out, List.length_map]]
          exact itR_all true P
        rw [e] at hown
        have Hown := hidden hown
        have Hbe := hidden hbe
        clear hqN e hown hbe
        go_wp2_with fail
        go_ret3
        exact ⟨⟨_, rfl, isItems_of Hown.out⟩, HB.out.trans (Hbe.out.mono HB.out.size)⟩
end Go.Proofs.PlatenTree
