/- In a width that has room for it a grown tree of JSON is one line: its tokens side by side with a blank behind each comma and each colon. -/
import Derived.Test.YtfakfgmengcndaaArgsZ
import Derived.Test.YtfakfgmengcndaaKR
import Derived.Test.YtfakfgmengcndaaTxA
import Derived.Deep.RegionHeld3
import Derived.OwnWalk
namespace Go.Proofs.Ytfakfgmengcndaa.Flat
open Go.ChangeShapes Go.WideShapes Go.ChangeAt Go.RowKit Go.Proofs.PlatenTree
open Go.Proofs.PlatenLayout (str str_size IsItems take_dst)
set_option linter.unusedVariables false
set_option maxRecDepth 100000

set_option maxHeartbeats 4000000 in
theorem long (u : Value) (l : List Nd) (w : World) (hu : IsNd w u l) (hl : 40 < l.length) :
    Calls Try.prog 9 #[u] w fun e w' => e = .returned (.bool true) ∧ Below w.heap.size w w' := by
  obtain ⟨_, a2, cap2, rfl, _⟩ := hu
  have hll : (40 : Int) < (l.length : Int) := by omega
  obtain ⟨m, hm⟩ : ∃ m, l.length = m := ⟨_, rfl⟩
  rw [hm] at hll hl ⊢
  clear hl hm
  go_enter Try.func9, Try.ntmps9
  go_wp2_with fail
  refine (laid_any w).mono ?_
  rintro e w1 ⟨rfl, hb⟩
  have B1 := hidden hb
  clear hb
  go_wp2_with fail
  refine (laid_any w1).mono ?_
  rintro e w2 ⟨rfl, hb⟩
  have B2 := hidden (B1.out.trans (hb.mono B1.out.size))
  clear hb
  go_wp2_with fail
  go_ret
  exact ⟨rfl, B2.out⟩
def SF (tg q k a m b o cap : Nat) (z : List Nat) (u : World) : Prop := S3 tg q k a m u ∧ RowL u (.slice (some ⟨b, o, none⟩) m cap) z
theorem SF.below {tg q k a m b o cap : Nat} {z : List Nat} {w u : World} (h : SF tg q k a m b o cap z w) (hb : Below w.heap.size w u) : SF tg q k a m b o cap z u := ⟨h.1.below hb, h.2.below hb⟩
set_option maxHeartbeats 8000000 in
theorem short (u : Value) (l : List Nd) (w : World) (hu : IsNd w u l) (hl : l.length ≤ 40) :
    Calls Try.prog 9 #[u] w fun e w' => e = .returned (.bool true) ∧ Below w.heap.size w w' := by
  have HU := hidden hu
  have HL : Hid (l.length ≤ 40) := hidden hl
  obtain ⟨_, a2, cap2, rfl, _⟩ := hu
  have hll : ¬ ((40 : Int) < (l.length : Int)) := by omega
  have CG := fun (W : World) (hW : Below w.heap.size w W) => grown_any false (w := W) (HU.out.below hW) HL.out
  have hg : Pg false (mk false 9 l).1 := pg_grown false hl
  obtain ⟨P, hP⟩ := grown_rd false hl
  obtain ⟨p, hp⟩ : ∃ p, (mk false 9 l).1 = p := ⟨_, rfl⟩
  rw [hp] at hg hP
  simp only [hp] at CG
  clear hp
  have hpl := hg.len
  have hq := want_lay hg hP
  have hwl := want_le hP
  have CF := fun (W : World) (x : Value) (hx : RowL W x p) => format_any false 65536 (w := W) (by decide) hg.lt (by omega) hx hg.items
  simp only [fmt_yes hP hq] at CF
  have CR := fun (W : World) (x : Value) (hx : RowL W x p) => rtread_any false (w := W) hg.lt (by omega) hx
  obtain ⟨T, eT, hT, hTl, hTb⟩ := tok_ok hP
  simp only [eT] at CR
  unfold RdP at CR
  try simp only at CR
  have hPT : P.length = T.length := by rw [← hT, List.length_map]
  have HP := hidden hT
  have HB := hidden hTb
  have Hlt := hidden hg.lt
  have HW : Hid (∀ k, (want (P.take k)).length ≤ 2200) := fun k => by have := want_take P k; omega
  have HE : Hid (want (P.take T.length) = want P) := by show _ = _; rw [← hPT, List.take_length]
  clear hP eT hT hTb hg hq hwl hl
  obtain ⟨N, hN⟩ : ∃ N, T.length = N := ⟨_, rfl⟩
  obtain ⟨n, hn⟩ : ∃ n, p.length = n := ⟨_, rfl⟩
  have HN := hidden hN
  have Hn := hidden hn
  rw [hN] at HE hTl
  rw [hn] at hTl hpl
  clear hN hn hPT
  go_enter Try.func9, Try.ntmps9
  go_wp2_with fail
  refine (laid_any w).mono ?_
  rintro e w1 ⟨rfl, hb⟩
  have B1 := hidden hb
  clear hb
  have cx := CG w1 B1.out
  go_wp2_with fail
  refine cx.mono ?_
  clear cx
  rintro e w2 ⟨x, rfl, hx, hb⟩
  have B2 := hidden (B1.out.trans (hb.mono B1.out.size))
  have HX := hidden hx
  clear hb hx
  have cx := CR w2 x HX.out
  go_wp2_with fail
  refine cx.mono ?_
  clear cx
  rintro e w3 ⟨tv, rfl, ht, hb⟩
  have B3 := hidden (B2.out.trans (hb.mono B2.out.size))
  have HX := hidden (HX.out.below hb)
  have HT := hidden ht
  clear hb ht
  obtain ⟨va, vc, rfl⟩ := HX.out.val
  obtain ⟨ta, tc, rfl, _⟩ := id HT.out
  rw [HN.out] at HT ⊢
  rw [Hn.out] at HX ⊢
  go_wp2_with fail
  go_loopw [7, 8] (fun wv i wr => ∃ k : Nat, k ≤ N ∧ wv = .string (str (want (P.take k))) ∧ i = .int .i64 (k : Nat) ∧ Below w3.heap.size w3 wr) (fun _ i _ => N - (intOf i).toNat)
  case atStart => exact ⟨0, Nat.zero_le _, rfl, rfl, Below.refl _ _⟩
  case round =>
    obtain ⟨q, hq, rfl, rfl, hbe⟩ := hrel
    by_cases hlt : q < N
    · have hlz : (q : Int) < (N : Int) := by omega
      obtain ⟨t, hTq⟩ : ∃ t, T[q]? = some t := ⟨_, List.getElem?_eq_getElem (by rw [HN.out]; exact hlt)⟩
      have hPq : P[q]? = some (pcs p t) := by rw [← HP.out, List.getElem?_map, hTq]; rfl
      obtain ⟨hk6, hm1, hbt⟩ := HB.out t (List.mem_of_getElem? hTq)
      obtain ⟨tg, tc', e0, hcap, x0, x1, x2⟩ := tk_at HT.out hTq
      rw [HN.out] at e0 hcap
      injection e0 with e1 e2 e3
      subst e1 e3
      clear e2
      obtain ⟨va', vc', e0, hr0⟩ := id HX.out
      obtain ⟨b, off, e4, hcp, _⟩ := hr0 (by omega)
      rw [Hn.out] at e0 hcp
      injection e0 with e1 e2 e3
      subst e1 e3 e4
      clear e2 hr0
      have hws := want_succ hPq
      obtain ⟨kd, a, m⟩ := t
      simp only at hk6 hm1 hbt x0 x1 x2
      have Hsub : Hid (RowL w3 (.slice (some ⟨b, off + a, none⟩) m (vc - a)) (sl p a m)) := by have hh := HX.out; rw [← Hn.out] at hh; exact hh.sub hm1 hbt
      rw [Hn.out] at hbt
      have HS : Hid (∀ u, Below w3.heap.size w3 u → SF tg q kd a m b (off + a) (vc - a) (sl p a m) u) := fun u hu => SF.below (w := w3) ⟨⟨x0, x1, x2⟩, Hsub.out⟩ hu
      have Hsl : Hid (∀ c ∈ sl p a m, c < 256) := sl_lt Hlt.out a m
      have hca : ¬ vc = a := by omega
      have hwam : IntKind.i64.wrap ((a : Int) + (m : Int)) = (a : Int) + (m : Int) := IntWalk.i64_in _ (by omega)
      have htn : ((a : Int) + (m : Int)).toNat = a + m := by omega
      have h0am : 0 ≤ (a : Int) + (m : Int) := by omega
      have hvc : (a : Int) + (m : Int) ≤ (vc : Int) := by omega
      have hle : a ≤ a + m := by omega
      have hsb : a + m - a = m := by omega
      have hwq := HW.out q
      have hwq1 := HW.out (q + 1)
      rw [hws] at hwq1
      simp only [List.length_append] at hwq1
      have hst : str (want (P.take q)) ++ str (sl p a m) = str (want (P.take q) ++ sl p a m) := str_cat _ _
      have hsz : ¬ 9223372036854775807 < (str (want (P.take q))).size + (str (sl p a m)).size := by
        rw [str_size, str_size]
        have e : (pcs p (kd, a, m)).2 = sl p a m := rfl
        rw [e] at hwq1
        omega
      have hsz2 : (str (want (P.take q) ++ sl p a m)).size ≤ 4400 := by
        rw [str_size, List.length_append]
        have e : (pcs p (kd, a, m)).2 = sl p a m := rfl
        rw [e] at hwq1
        omega
      have Hws : Hid (str (want (P.take (q + 1))) = str (want (P.take q) ++ sl p a m ++ (if kd = 3 ∨ kd = 4 then [32] else []))) := by
        show str _ = _
        rw [hws]
        rfl
      have Hadd : Hid (str (want (P.take q) ++ sl p a m) ++ ({ data := #[32] } : ByteArray) = str (want (P.take q) ++ sl p a m ++ [32])) := str_cat (want (P.take q) ++ sl p a m) [32]
      obtain ⟨W0, hW0⟩ : ∃ W0, want (P.take q) ++ sl p a m = W0 := ⟨_, rfl⟩
      rw [hW0] at hst hsz2 Hws Hadd
      obtain ⟨Y, hY⟩ : ∃ Y, str W0 = Y := ⟨_, rfl⟩
      rw [hY] at hst hsz2 Hadd
      have HY := hidden hY
      obtain ⟨Z, hZ⟩ : ∃ Z, str (sl p a m) = Z := ⟨_, rfl⟩
      rw [hZ] at hst hsz
      obtain ⟨X, hX⟩ : ∃ X, str (want (P.take q)) = X := ⟨_, rfl⟩
      rw [hX] at hst hsz ⊢
      have Hbe := hidden hbe
      have hszr := hbe.size
      clear hws hwq hwq1 hY hX hW0 hPq hTq x0 x1 x2 Hsub hbe hcp hcap
      go_wp2_with fail
      refine wp_region_held_drew (S := SF tg q kd a m b (off + a) (vc - a) (sl p a m)) (by kernel_rfl) (HS.out _ (PlatenLayout.below_drew Hbe.out)) (fun hHeld => ?_)
      have hS0 : SF tg q kd a m b (off + a) (vc - a) (sl p a m) wr.drew := HS.out _ (PlatenLayout.below_drew Hbe.out)
      refine take_dst 0 (some 34) rfl rfl (by kernel_rfl) (by kernel_rfl) (by kernel_rfl) (fun _ _ _ h => h) (v := ?_) (Or.inl ⟨by rfl, ?_⟩) (by assumption) ?_
      rotate_left
      · (intro w hSw; obtain ⟨⟨s0, s1, s2⟩, sr⟩ := hSw; have hcv := conv_str sr Hsl.out; rw [hZ] at hcv; go_simp; try with_reducible rfl)
      simp only [Act.put, List.setIfInBounds_toArray, List.set_cons_zero, List.set_cons_succ]
      refine take_dst 1 (some 35) rfl rfl (by kernel_rfl) (by kernel_rfl) (by kernel_rfl) (fun _ _ _ h => h) (v := ?_) (Or.inl ⟨by rfl, ?_⟩) (by assumption) ?_
      rotate_left
      · (intro w hSw; obtain ⟨⟨s0, s1, s2⟩, sr⟩ := hSw; have hcv := conv_str sr Hsl.out; rw [hZ] at hcv; go_simp; try with_reducible rfl)
      simp only [Act.put, List.setIfInBounds_toArray, List.set_cons_zero, List.set_cons_succ]
      refine take_dst 2 (some 36) rfl rfl (by kernel_rfl) (by kernel_rfl) (by kernel_rfl) (fun _ _ _ h => h) (v := ?_) (Or.inl ⟨by rfl, ?_⟩) (by assumption) ?_
      rotate_left
      · (intro w hSw; obtain ⟨⟨s0, s1, s2⟩, sr⟩ := hSw; have hcv := conv_str sr Hsl.out; rw [hZ] at hcv; go_simp; try with_reducible rfl)
      simp only [Act.put, List.setIfInBounds_toArray, List.set_cons_zero, List.set_cons_succ]
      refine take_dst 3 (some 37) rfl rfl (by kernel_rfl) (by kernel_rfl) (by kernel_rfl) (fun _ _ _ h => h) (v := ?_) (Or.inl ⟨by rfl, ?_⟩) (by assumption) ?_
      rotate_left
      · (intro w hSw; obtain ⟨⟨s0, s1, s2⟩, sr⟩ := hSw; have hcv := conv_str sr Hsl.out; rw [hZ] at hcv; go_simp; try with_reducible rfl)
      simp only [Act.put, List.setIfInBounds_toArray, List.set_cons_zero, List.set_cons_succ]
      refine take_dst 4 (some 38) rfl rfl (by kernel_rfl) (by kernel_rfl) (by kernel_rfl) (fun _ _ _ h => h) (v := ?_) (Or.inl ⟨by rfl, ?_⟩) (by assumption) ?_
      rotate_left
      · (intro w hSw; obtain ⟨⟨s0, s1, s2⟩, sr⟩ := hSw; have hcv := conv_str sr Hsl.out; rw [hZ] at hcv; go_simp; try with_reducible rfl)
      simp only [Act.put, List.setIfInBounds_toArray, List.set_cons_zero, List.set_cons_succ]
      refine take_dst 5 (some 39) rfl rfl (by kernel_rfl) (by kernel_rfl) (by kernel_rfl) (fun _ _ _ h => h) (v := ?_) (Or.inl ⟨by rfl, ?_⟩) (by assumption) ?_
      rotate_left
      · (intro w hSw; obtain ⟨⟨s0, s1, s2⟩, sr⟩ := hSw; have hcv := conv_str sr Hsl.out; rw [hZ] at hcv; go_simp; try with_reducible rfl)
      simp only [Act.put, List.setIfInBounds_toArray, List.set_cons_zero, List.set_cons_succ]
      refine take_dst 6 (some 40) rfl rfl (by kernel_rfl) (by kernel_rfl) (by kernel_rfl) (fun _ _ _ h => h) (v := ?_) (Or.inl ⟨by rfl, ?_⟩) (by assumption) ?_
      rotate_left
      · (intro w hSw; obtain ⟨⟨s0, s1, s2⟩, sr⟩ := hSw; have hcv := conv_str sr Hsl.out; rw [hZ] at hcv; go_simp; try with_reducible rfl)
      simp only [Act.put, List.setIfInBounds_toArray, List.set_cons_zero, List.set_cons_succ]
      refine take_dst 7 (some 41) rfl rfl (by kernel_rfl) (by kernel_rfl) (by kernel_rfl) (fun _ _ _ h => h) (v := ?_) (Or.inl ⟨by rfl, ?_⟩) (by assumption) ?_
      rotate_left
      · (intro w hSw; obtain ⟨⟨s0, s1, s2⟩, sr⟩ := hSw; have hcv := conv_str sr Hsl.out; rw [hZ] at hcv; go_simp; try with_reducible rfl)
      simp only [Act.put, List.setIfInBounds_toArray, List.set_cons_zero, List.set_cons_succ]
      refine take_dst 8 (some 42) rfl rfl (by kernel_rfl) (by kernel_rfl) (by kernel_rfl) (fun _ _ _ h => h) (v := ?_) (Or.inl ⟨by rfl, ?_⟩) (by assumption) ?_
      rotate_left
      · (intro w hSw; obtain ⟨⟨s0, s1, s2⟩, sr⟩ := hSw; have hcv := conv_str sr Hsl.out; rw [hZ] at hcv; go_simp; try with_reducible rfl)
      simp only [Act.put, List.setIfInBounds_toArray, List.set_cons_zero, List.set_cons_succ]
      refine take_dst 9 (some 43) rfl rfl (by kernel_rfl) (by kernel_rfl) (by kernel_rfl) (fun _ _ _ h => h) (v := ?_) (Or.inl ⟨by rfl, ?_⟩) (by assumption) ?_
      rotate_left
      · (intro w hSw; obtain ⟨⟨s0, s1, s2⟩, sr⟩ := hSw; have hcv := conv_str sr Hsl.out; rw [hZ] at hcv; go_simp; try with_reducible rfl)
      simp only [Act.put, List.setIfInBounds_toArray, List.set_cons_zero, List.set_cons_succ]
      refine take_dst 10 (some 44) rfl rfl (by kernel_rfl) (by kernel_rfl) (by kernel_rfl) (fun _ _ _ h => h) (v := ?_) (Or.inl ⟨by rfl, ?_⟩) (by assumption) ?_
      rotate_left
      · (intro w hSw; obtain ⟨⟨s0, s1, s2⟩, sr⟩ := hSw; have hcv := conv_str sr Hsl.out; rw [hZ] at hcv; go_simp; try with_reducible rfl)
      simp only [Act.put, List.setIfInBounds_toArray, List.set_cons_zero, List.set_cons_succ]
      refine take_dst 11 (some 45) rfl rfl (by kernel_rfl) (by kernel_rfl) (by kernel_rfl) (fun _ _ _ h => h) (v := ?_) (Or.inl ⟨by rfl, ?_⟩) (by assumption) ?_
      rotate_left
      · (intro w hSw; obtain ⟨⟨s0, s1, s2⟩, sr⟩ := hSw; have hcv := conv_str sr Hsl.out; rw [hZ] at hcv; go_simp; try with_reducible rfl)
      simp only [Act.put, List.setIfInBounds_toArray, List.set_cons_zero, List.set_cons_succ]
      refine take_dst 12 (some 46) rfl rfl (by kernel_rfl) (by kernel_rfl) (by kernel_rfl) (fun _ _ _ h => h) (v := ?_) (Or.inl ⟨by rfl, ?_⟩) (by assumption) ?_
      rotate_left
      · (intro w hSw; obtain ⟨⟨s0, s1, s2⟩, sr⟩ := hSw; have hcv := conv_str sr Hsl.out; rw [hZ] at hcv; go_simp; try with_reducible rfl)
      simp only [Act.put, List.setIfInBounds_toArray, List.set_cons_zero, List.set_cons_succ]
      refine take_dst 13 (some 47) rfl rfl (by kernel_rfl) (by kernel_rfl) (by kernel_rfl) (fun _ _ _ h => h) (v := ?_) (Or.inl ⟨by rfl, ?_⟩) (by assumption) ?_
      rotate_left
      · (intro w hSw; obtain ⟨⟨s0, s1, s2⟩, sr⟩ := hSw; have hcv := conv_str sr Hsl.out; rw [hZ] at hcv; go_simp; try with_reducible rfl)
      simp only [Act.put, List.setIfInBounds_toArray, List.set_cons_zero, List.set_cons_succ]
      refine take_dst 14 (some 48) rfl rfl (by kernel_rfl) (by kernel_rfl) (by kernel_rfl) (fun _ _ _ h => h) (v := ?_) (Or.inl ⟨by rfl, ?_⟩) (by assumption) ?_
      rotate_left
      · (intro w hSw; obtain ⟨⟨s0, s1, s2⟩, sr⟩ := hSw; have hcv := conv_str sr Hsl.out; rw [hZ] at hcv; go_simp; try with_reducible rfl)
      simp only [Act.put, List.setIfInBounds_toArray, List.set_cons_zero, List.set_cons_succ]
      refine take_dst 15 (some 49) rfl rfl (by kernel_rfl) (by kernel_rfl) (by kernel_rfl) (fun _ _ _ h => h) (v := ?_) (Or.inl ⟨by rfl, ?_⟩) (by assumption) ?_
      rotate_left
      · (intro w hSw; obtain ⟨⟨s0, s1, s2⟩, sr⟩ := hSw; have hcv := conv_str sr Hsl.out; rw [hZ] at hcv; go_simp; try with_reducible rfl)
      simp only [Act.put, List.setIfInBounds_toArray, List.set_cons_zero, List.set_cons_succ]
      refine take_dst 16 (some 50) rfl rfl (by kernel_rfl) (by kernel_rfl) (by kernel_rfl) (fun _ _ _ h => h) (v := ?_) (Or.inl ⟨by rfl, ?_⟩) (by assumption) ?_
      rotate_left
      · (intro w hSw; obtain ⟨⟨s0, s1, s2⟩, sr⟩ := hSw; have hcv := conv_str sr Hsl.out; rw [hZ] at hcv; go_simp; try with_reducible rfl)
      simp only [Act.put, List.setIfInBounds_toArray, List.set_cons_zero, List.set_cons_succ]
      refine take_dst 17 (some 51) rfl rfl (by kernel_rfl) (by kernel_rfl) (by kernel_rfl) (fun _ _ _ h => h) (v := ?_) (Or.inl ⟨by rfl, ?_⟩) (by assumption) ?_
      rotate_left
      · (intro w hSw; obtain ⟨⟨s0, s1, s2⟩, sr⟩ := hSw; have hcv := conv_str sr Hsl.out; rw [hZ] at hcv; go_simp; try with_reducible rfl)
      simp only [Act.put, List.setIfInBounds_toArray, List.set_cons_zero, List.set_cons_succ]
      refine take_dst 18 (some 52) rfl rfl (by kernel_rfl) (by kernel_rfl) (by kernel_rfl) (fun _ _ _ h => h) (v := ?_) (Or.inl ⟨by rfl, ?_⟩) (by assumption) ?_
      rotate_left
      · (intro w hSw; obtain ⟨⟨s0, s1, s2⟩, sr⟩ := hSw; have hcv := conv_str sr Hsl.out; rw [hZ] at hcv; go_simp; try with_reducible rfl)
      simp only [Act.put, List.setIfInBounds_toArray, List.set_cons_zero, List.set_cons_succ]
      refine take_dst 19 (some 53) rfl rfl (by kernel_rfl) (by kernel_rfl) (by kernel_rfl) (fun _ _ _ h => h) (v := ?_) (Or.inl ⟨by rfl, ?_⟩) (by assumption) ?_
      rotate_left
      · (intro w hSw; obtain ⟨⟨s0, s1, s2⟩, sr⟩ := hSw; have hcv := conv_str sr Hsl.out; rw [hZ] at hcv; go_simp; try with_reducible rfl)
      simp only [Act.put, List.setIfInBounds_toArray, List.set_cons_zero, List.set_cons_succ]
      refine take_dst 20 (some 54) rfl rfl (by kernel_rfl) (by kernel_rfl) (by kernel_rfl) (fun _ _ _ h => h) (v := ?_) (Or.inl ⟨by rfl, ?_⟩) (by assumption) ?_
      rotate_left
      · (intro w hSw; obtain ⟨⟨s0, s1, s2⟩, sr⟩ := hSw; have hcv := conv_str sr Hsl.out; rw [hZ] at hcv; go_simp; try with_reducible rfl)
      simp only [Act.put, List.setIfInBounds_toArray, List.set_cons_zero, List.set_cons_succ]
      refine take_dst 21 (some 7) rfl rfl (by kernel_rfl) (by kernel_rfl) (by kernel_rfl) (fun _ _ _ h => h) (v := ?_) (Or.inl ⟨by rfl, ?_⟩) (by assumption) ?_
      rotate_left
      · (intro w hSw; obtain ⟨⟨s0, s1, s2⟩, sr⟩ := hSw; have hcv := conv_str sr Hsl.out; rw [hZ] at hcv; go_simp; try with_reducible rfl)
      simp only [Act.put, List.setIfInBounds_toArray, List.set_cons_zero, List.set_cons_succ]
      refine wpAnyH_done (by kernel_rfl) ?_ _
      clear hHeld hZ
      obtain ⟨⟨y0, y1, y2⟩, _⟩ := id hS0
      clear hS0
      have HB2 := hidden (PlatenLayout.below_drew Hbe.out)
      have hsy : ¬ 9223372036854775807 < Y.size + 1 := by omega
      have hsy2 : ¬ 9223372036854775807 < Y.size + ({ data := #[32] } : ByteArray).size := by show ¬ 9223372036854775807 < Y.size + 1; omega
      rcases (show kd = 3 ∨ kd = 4 ∨ (kd ≠ 3 ∧ kd ≠ 4) by omega) with hk | hk | ⟨hk, hk'⟩
      · subst hk
        have hadd := Hadd.out
        obtain ⟨Y2, hY2⟩ : ∃ Y2, str (W0 ++ [32]) = Y2 := ⟨_, rfl⟩
        rw [hY2] at hadd
        have HY2 := hidden hY2
        clear hY2
        go_wp2_with fail
        go_roundw
        case rel =>
          refine ⟨q + 1, by omega, ?_, by go_num, HB2.out⟩
          rw [Hws.out, if_pos (Or.inl rfl), HY2.out]
        case measure => simp [intOf]; omega
      · subst hk
        have hadd := Hadd.out
        obtain ⟨Y2, hY2⟩ : ∃ Y2, str (W0 ++ [32]) = Y2 := ⟨_, rfl⟩
        rw [hY2] at hadd
        have HY2 := hidden hY2
        clear hY2
        go_wp2_with fail
        go_roundw
        case rel =>
          refine ⟨q + 1, by omega, ?_, by go_num, HB2.out⟩
          rw [Hws.out, if_pos (Or.inr rfl), HY2.out]
        case measure => simp [intOf]; omega
      · have hk3 : ((kd : Int) == 3) = false := by rw [beq_eq_false_iff_ne]; omega
        have hk4 : ((kd : Int) == 4) = false := by rw [beq_eq_false_iff_ne]; omega
        go_wp2_with fail
        go_roundw
        case rel =>
          refine ⟨q + 1, by omega, ?_, by go_num, HB2.out⟩
          rw [Hws.out, if_neg (by omega), List.append_nil, HY.out]
        case measure => simp [intOf]; omega
    · have hqn : q = N := by omega
      subst hqn
      have hlz : ¬ ((q : Int) < (q : Int)) := by omega
      rw [HE.out]
      have cx := CF wr _ (HX.out.below hbe)
      obtain ⟨Y, hY⟩ : ∃ Y, str (want P) = Y := ⟨_, rfl⟩
      rw [hY] at cx ⊢
      have B4 := hidden (B3.out.trans (hbe.mono B3.out.size))
      clear hY hbe
      go_wp2_with fail
      refine cx.mono ?_
      clear cx
      rintro e w5 ⟨rfl, hb⟩
      have B5 := hidden (B4.out.trans (hb.mono B4.out.size))
      clear hb
      go_wp2_with fail
      go_ret
      exact ⟨rfl, B5.out⟩
theorem law (u : Value) (l : List Nd) (w : World) (hu : IsNd w u l) :
    Calls Try.prog 9 #[u] w fun e w' => e = .returned (.bool true) ∧ Below w.heap.size w w' := by
  rcases Nat.lt_or_ge 40 l.length with hl | hl
  · exact long u l w hu hl
  · exact short u l w hu hl
set_option maxRecDepth 100000 in
theorem lifted (os : Os) (started : os.Started) (H : Type) (enc : TypeId × Value → H) :
    ReturnsInHanded {} Try.checked os 9 .any (Rows.treeFlatSpec.pre6 enc Try.prog Try.f9 Rows.treeFlatRow.domain false) (Rows.treeFlatSpec.post enc Try.prog Try.f9 false true false false) := by
  refine returnsInHanded_of_change (C := Try.checked) own started (by kernel_rfl) Try.func9
    (ChangeSpec.witness6 (enc := enc) (C := Try.checked) false ⟨#[], #[.slice none 0 0], []⟩ 8 (by kernel_rfl) (by kernel_rfl) (by kernel_rfl) (by kernel_rfl)) ?_
  intro W base args ds gs before hval0 hW _ _
  have hval : ∀ (j : Nat) t v, Try.f9.params[j]? = some t → args[j]? = some v → Value.okWide Try.prog W .any base t v := hval0
  have hW' := hW
  obtain ⟨p, q, hA0, hV, rfl, _, _⟩ := hW
  have hA : DataW.TrodAll enc Try.prog W 0 (fun _ => true) true Try.f9.params.toList args.toList ds p := hA0
  rw [Try.params9] at hA hval
  obtain ⟨v0, vs0, d0, ds0, p0, q0, hargs, rfl, rfl, h0, r0⟩ := trodAll_cons hA
  obtain ⟨rfl, rfl, rfl⟩ := trodAll_nil r0
  obtain rfl : args = #[v0] := by cases args; simp_all
  obtain ⟨rfl, rfl⟩ := trodVars_none hV
  have lt0 : ∀ x ∈ p0, x.block < W.heap.size := by obtain ⟨m, hm⟩ := h0; exact DataW.trod_lt m _ _ _ hm
  obtain ⟨f0, g0⟩ := open_acts (hval 0 30 v0 rfl rfl) h0
  clear hA0 hval0
  simp only [List.append_nil] at hW'
  refine (law v0 f0 W g0).mono fun e W' ⟨he, bel⟩ => ?_
  subst he
  exact ⟨_, rfl, _, _, _, [], _, [], hW', trodAll_mk1 (shut_bool Try.underlying4 _), (trodAll_cons_mk (Below.trod laidOut (by kernel_rfl) (of_decide_eq_true (by kernel_rfl)) h0 bel lt0) trodAll_mk0), rfl, bel.frame _, fun h => by cases h⟩

theorem said : Rows.TreeFlatSaid :=
  OpenClaim.holds_of_wide 9 Try.f9 rfl rfl rfl rfl rfl rfl rfl ⟨rfl, rfl, rfl, rfl, rfl⟩ rfl rfl rfl rfl rfl (by kernel_rfl) Try.func9 (by kernel_rfl)
    (of_decide_eq_true (by kernel_rfl)) (by unfold Func.isWrapper; first | (rw [if_pos (by decide +kernel)]; kernel_rfl) | (rw [if_neg (by decide +kernel)]; exact ⟨rfl, rfl⟩))
    (fun os started H enc _ => lifted os started H enc)
#print axioms said
end Go.Proofs.Ytfakfgmengcndaa.Flat
