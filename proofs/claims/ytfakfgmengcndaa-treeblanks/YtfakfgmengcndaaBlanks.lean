/- A grown tree and the same tokens with other blanks between them are laid out alike, whatever the width. -/
import Derived.Test.YtfakfgmengcndaaArgsZ
import Derived.Test.YtfakfgmengcndaaKR
import Derived.Test.YtfakfgmengcndaaTxA
import Derived.Deep.RegionHeld3
import Derived.OwnWalk
namespace Go.Proofs.Ytfakfgmengcndaa.Blanks
open Go.ChangeShapes Go.WideShapes Go.ChangeAt Go.RowKit Go.Proofs.PlatenTree
open Go.Proofs.PlatenLayout (str str_size IsItems take_dst)
set_option linter.unusedVariables false
set_option maxRecDepth 100000

set_option maxHeartbeats 4000000 in
theorem long (u : Value) (l : List Nd) (s : Bool) (wd : Int) (v : Value) (n : Nat) (f : Nat → Nat) (w : World) (hu : IsNd w u l) (hwd : -32768 ≤ wd ∧ wd ≤ 32767) (h : IsArg w v n f) (hl : 40 < l.length) :
    Calls Try.prog 8 #[u, .bool s, .int .i16 wd, v] w fun e w' => e = .returned (.bool true) ∧ Below w.heap.size w w' := by
  obtain ⟨hf, hm0, a, cap, rfl, _⟩ := h
  obtain ⟨_, a2, cap2, rfl, _⟩ := hu
  have hll : (40 : Int) < (l.length : Int) := by omega
  obtain ⟨m, hm⟩ : ∃ m, l.length = m := ⟨_, rfl⟩
  rw [hm] at hll hl ⊢
  clear hl hm
  go_enter Try.func8, Try.ntmps8
  go_wp2_with fail
  refine (laid_any w).mono ?_
  rintro e w1 ⟨rfl, hb⟩
  have B1 := hidden hb
  clear hb
  go_wp2_with fail
  refine (laid_any w1).mono ?_
  rintro e w2 ⟨rfl, hb⟩
  have B2 := hidden (B1.out.trans (hb.mono B1.out.size))
  clear hb
  go_wp2_with fail
  go_ret
  exact ⟨rfl, B2.out⟩
set_option maxHeartbeats 4000000 in
theorem longG (u : Value) (l : List Nd) (s : Bool) (wd : Int) (v : Value) (n : Nat) (f : Nat → Nat) (w : World) (hu : IsNd w u l) (hwd : -32768 ≤ wd ∧ wd ≤ 32767) (h : IsArg w v n f) (hl : l.length ≤ 40) (hn : 60 < n) :
    Calls Try.prog 8 #[u, .bool s, .int .i16 wd, v] w fun e w' => e = .returned (.bool true) ∧ Below w.heap.size w w' := by
  obtain ⟨hf, hm0, a, cap, rfl, _⟩ := h
  obtain ⟨_, a2, cap2, rfl, _⟩ := hu
  have hll : ¬ ((40 : Int) < (l.length : Int)) := by omega
  have hlz : (60 : Int) < (n : Int) := by omega
  obtain ⟨m, hm⟩ : ∃ m, l.length = m := ⟨_, rfl⟩
  rw [hm] at hll hl ⊢
  clear hl hm hn
  go_enter Try.func8, Try.ntmps8
  go_wp2_with fail
  refine (laid_any w).mono ?_
  rintro e w1 ⟨rfl, hb⟩
  have B1 := hidden hb
  clear hb
  go_wp2_with fail
  refine (laid_any w1).mono ?_
  rintro e w2 ⟨rfl, hb⟩
  have B2 := hidden (B1.out.trans (hb.mono B1.out.size))
  clear hb
  go_wp2_with fail
  go_ret
  exact ⟨rfl, B2.out⟩
def SF (tg q k a m b o cap : Nat) (z : List Nat) (u : World) : Prop := S3 tg q k a m u ∧ RowL u (.slice (some ⟨b, o, none⟩) m cap) z
theorem SF.below {tg q k a m b o cap : Nat} {z : List Nat} {w u : World} (h : SF tg q k a m b o cap z w) (hb : Below w.heap.size w u) : SF tg q k a m b o cap z u := ⟨h.1.below hb, h.2.below hb⟩
theorem row_news {w : World} {b o m cap : Nat} {z : List Nat} (h : RowL w (.slice (some ⟨b, o, none⟩) m cap) z) (hm : 1 ≤ m) : z.length = m ∧ ∀ j u, (bc z)[j]? = some u → w.cell? ((⟨b, o, none⟩ : Addr).add j) = some u := by
  obtain ⟨a, c, e, h1⟩ := h
  injection e with e1 e2 e3
  obtain ⟨b', o', e4, _, hr⟩ := h1 (by omega)
  rw [e4] at e1
  injection e1 with e1
  injection e1 with e5 e6 _
  subst e5 e6
  refine ⟨e2.symm, fun j u hj => ?_⟩
  have hl : j < z.length := by
    have := (List.getElem?_eq_some_iff.1 hj).1
    rw [bc_len] at this
    exact this
  have := hr j hl
  rw [Addr.add_lit]
  rw [this]
  unfold bc at hj
  rw [List.getElem?_map, List.getElem?_eq_getElem hl] at hj
  have hj : Value.int .u8 ((z[j] : Nat) : Int) = u := by injection hj
  rw [← hj]
  show some (Value.int .u8 ((z.getD j 0 : Nat) : Int)) = _
  rw [List.getD_eq_getElem?_getD, List.getElem?_eq_getElem hl]
  rfl
theorem rd_some {s : Bool} {p : List Nat} {P : List Pc} (h : rd s p = some P) : 0 < P.length := by
  rcases Nat.eq_zero_or_pos P.length with e | e
  · have e := List.eq_nil_of_length_eq_zero e
    subst e
    have := stays (ch := chn) (w := 0) (q := []) h rfl
    cases s
    · exact absurd this (by decide)
    · exact absurd this (by decide)
  · exact e
set_option maxHeartbeats 16000000 in
theorem short (u : Value) (l : List Nd) (s : Bool) (wd : Int) (v : Value) (n : Nat) (f : Nat → Nat) (w : World) (hu : IsNd w u l) (hwd : -32768 ≤ wd ∧ wd ≤ 32767) (h : IsArg w v n f) (hl : l.length ≤ 40) (hn : n ≤ 60) :
    Calls Try.prog 8 #[u, .bool s, .int .i16 wd, v] w fun e w' => e = .returned (.bool true) ∧ Below w.heap.size w w' := by
  obtain ⟨hf, hm0, hr⟩ := h
  have HR := hidden hr
  have HF := hidden hf
  have HU := hidden hu
  have HL : Hid (l.length ≤ 40) := hidden hl
  obtain ⟨ga, gc, rfl, _⟩ := hr
  obtain ⟨_, a2, cap2, rfl, _⟩ := hu
  have hll : ¬ ((40 : Int) < (l.length : Int)) := by omega
  have hlz0 : ¬ ((60 : Int) < (n : Int)) := by omega
  have hwr : IntKind.i64.wrap wd = wd := IntWalk.i64_in _ (by omega)
  obtain ⟨i0, hi, hz0, hz1, hz2⟩ := info_parts info5
  have CG := fun (W : World) (hW : Below w.heap.size w W) => grown_any s (w := W) (HU.out.below hW) HL.out
  have hg : Pg s (mk s 9 l).1 := pg_grown s hl
  obtain ⟨P, hP⟩ := grown_rd s hl
  obtain ⟨p, hp⟩ : ∃ p, (mk s 9 l).1 = p := ⟨_, rfl⟩
  rw [hp] at hg hP
  simp only [hp] at CG
  clear hp
  have hpl := hg.len
  obtain ⟨Q, hQ⟩ := hg.room P hP wd
  have hit := hg.items P hP
  have CF := fun (W : World) (x : Value) (hx : RowL W x p) => format_any s wd (w := W) (by omega) hg.lt (by omega) hx hg.items
  simp only [fmt_yes hP hQ] at CF
  have hbr : rd s (bt s n f P P.length) = some P := gB_read n f hP
  have hbl := bt_len n f hg hP P.length (Nat.le_refl _)
  have CF2 := fun (W : World) (x : Value) (hx : RowL W x (bt s n f P P.length)) => format_any s wd (w := W) (by omega) (bt_lt n f hg hP _) (by omega) hx (fun P' h' => by rw [hbr] at h'; cases h'; exact hit)
  simp only [fmt_yes hbr hQ] at CF2
  have CR := fun (W : World) (x : Value) (hx : RowL W x p) => rtread_any s (w := W) hg.lt (by omega) hx
  obtain ⟨T, eT, hT, hTl, hTb⟩ := tok_ok hP
  simp only [eT] at CR
  unfold RdP at CR
  try simp only at CR
  have hPT : P.length = T.length := by rw [← hT, List.length_map]
  have hP0 := rd_some hP
  have HP := hidden hT
  have HB := hidden hTb
  have HBL : Hid (∀ k, k ≤ P.length → (bt s n f P k).length ≤ 6000) := fun k hk => bt_len n f hg hP k hk
  obtain ⟨SS, hSS⟩ : ∃ SS, str Q = SS := ⟨_, rfl⟩
  rw [hSS] at CF CF2
  clear hP eT hT hTb hg hQ hit hbr hbl hSS hl hm0 hf hn hwd
  obtain ⟨N, hN⟩ : ∃ N, T.length = N := ⟨_, rfl⟩
  obtain ⟨pn, hpn⟩ : ∃ n, p.length = n := ⟨_, rfl⟩
  have HN := hidden hN
  have Hn := hidden hpn
  rw [hN] at hTl hPT
  rw [hpn] at hTl hpl
  rw [hPT] at HBL CF2 hP0
  have HPT := hidden hPT
  have hN0 : ((N : Int) == 0) = false := by rw [beq_eq_false_iff_ne]; omega
  clear hN hpn hPT
  go_enter Try.func8, Try.ntmps8
  go_wp2_with fail
  refine (laid_any w).mono ?_
  rintro e w1 ⟨rfl, hb⟩
  have B1 := hidden hb
  clear hb
  have cx := CG w1 B1.out
  go_wp2_with fail
  refine cx.mono ?_
  clear cx
  rintro e w2 ⟨x, rfl, hx, hb⟩
  have B2 := hidden (B1.out.trans (hb.mono B1.out.size))
  have HX := hidden hx
  clear hb hx
  have cx := CR w2 x HX.out
  go_wp2_with fail
  refine cx.mono ?_
  clear cx
  rintro e w3 ⟨tv, rfl, ht, hb⟩
  have B3 := hidden (B2.out.trans (hb.mono B2.out.size))
  have HX := hidden (HX.out.below hb)
  have HT := hidden ht
  have HR3 := hidden (HR.out.below B3.out)
  clear hb ht
  obtain ⟨va, vc, rfl⟩ := HX.out.val
  obtain ⟨ta, tc, rfl, _⟩ := id HT.out
  rw [HN.out] at HT ⊢
  rw [Hn.out] at HX ⊢
  go_wp2_with fail
  go_loopw [13, 14] (fun qv i wr => ∃ k : Nat, k ≤ N ∧ i = .int .i64 (k : Nat) ∧ wr.ownsRow w3.heap.size 5 1 qv (bt s n f P k).length (bc (bt s n f P k)) ∧ Below w3.heap.size w3 wr) (fun _ i _ => N - (intOf i).toNat)
  case atStart => exact ⟨0, Nat.zero_le _, rfl, World.ownsRow_nil _ _ _ _, Below.refl _ _⟩
  case round =>
    obtain ⟨k, hk, rfl, hown, hbe⟩ := hrel
    by_cases hlt : k < N
    · have hlz : (k : Int) < (N : Int) := by omega
      obtain ⟨t, hTq⟩ : ∃ t, T[k]? = some t := ⟨_, List.getElem?_eq_getElem (by rw [HN.out]; exact hlt)⟩
      have hPq : P[k]? = some (pcs p t) := by rw [← HP.out, List.getElem?_map, hTq]; rfl
      obtain ⟨hk6, hm1, hbt⟩ := HB.out t (List.mem_of_getElem? hTq)
      obtain ⟨tg, tc', e0, hcap, x0, x1, x2⟩ := tk_at HT.out hTq
      rw [HN.out] at e0 hcap
      injection e0 with e1 e2 e3
      subst e1 e3
      clear e2
      obtain ⟨va', vc', e0, hr0⟩ := id HX.out
      obtain ⟨b, off, e4, hcp, _⟩ := hr0 (by rw [Hn.out]; omega)
      rw [Hn.out] at e0 hcp
      injection e0 with e1 e2 e3
      subst e1 e3 e4
      clear e2 hr0
      have hbs := bt_succ (s := s) (m := n) (f := f) hPq
      have hkind : (P[k]?).map Prod.fst = some t.1 := by rw [hPq]; rfl
      obtain ⟨kd, a, m⟩ := t
      simp only at hk6 hm1 hbt x0 x1 x2 hkind
      have Hsub : Hid (RowL w3 (.slice (some ⟨b, off + a, none⟩) m (vc - a)) (sl p a m)) := by have hh := HX.out; rw [← Hn.out] at hh; exact hh.sub hm1 hbt
      rw [Hn.out] at hbt
      have HS : Hid (∀ u, Below w3.heap.size w3 u → SF tg k kd a m b (off + a) (vc - a) (sl p a m) u) := fun u hu => SF.below (w := w3) ⟨⟨x0, x1, x2⟩, Hsub.out⟩ hu
      obtain ⟨z0, z1, z2⟩ := S3.below (w := w3) (⟨x0, x1, x2⟩ : S3 tg k kd a m w3) hbe
      have Hgp : Hid (gp s n f P k = if s = true ∧ 0 < k ∧ xg n f k = 0 ∧ kd = 5 then 1 else xg n f k) := by
        show _ = _
        unfold gp
        rw [hkind]
        simp only [Option.some.injEq]
      have Hbs : Hid (bt s n f P (k + 1) = bt s n f P k ++ bl.take (gp s n f P k) ++ sl p a m) := hbs
      have hbk := HBL.out k hk
      have hca : ¬ vc = a := by omega
      have hwam : IntKind.i64.wrap ((a : Int) + (m : Int)) = (a : Int) + (m : Int) := IntWalk.i64_in _ (by omega)
      have htn : ((a : Int) + (m : Int)).toNat = a + m := by omega
      have h0am : 0 ≤ (a : Int) + (m : Int) := by omega
      have hvc : (a : Int) + (m : Int) ≤ (vc : Int) := by omega
      have hle : a ≤ a + m := by omega
      have hsb : a + m - a = m := by omega
      obtain ⟨B0, hB0⟩ : ∃ B0, bt s n f P k = B0 := ⟨_, rfl⟩
      rw [hB0] at Hbs hbk hown
      have Hown := hidden hown
      have Hbe := hidden hbe
      obtain ⟨qa, qc, rfl⟩ := PlatenLayout.row_slice hown
      clear hbs hkind x0 x1 x2 Hsub hB0 hPq hTq hcap hcp hown hbe
      by_cases hkm : k < n
      · obtain ⟨ga', gc', e0, hrr⟩ := HR3.out.below Hbe.out
        injection e0 with e1 e2 e3
        subst e1 e3
        clear e2
        obtain ⟨gb, go, rfl, hgcap, hrr⟩ := hrr (by omega)
        have g0 := hrr k hkm
        have hfk := HF.out k
        have hkmz : (k : Int) < (n : Int) := by omega
        have hxg : xg n f k = f k % 4 := if_pos hkm
        rw [hxg] at Hgp
        obtain ⟨x, hx⟩ : ∃ x, f k = x := ⟨_, rfl⟩
        rw [hx] at g0 hfk Hgp
        obtain ⟨y, hy⟩ : ∃ y, x % 4 = y := ⟨_, rfl⟩
        rw [hy] at Hgp
        have hy4 : (x : Int) % 4 = (y : Int) := by omega
        have hy3 : y ≤ 3 := by omega
        clear hxg hx hy hrr
        cases s with
        | false =>
          have HG : Hid (bt false n f P (k + 1) = B0 ++ bl.take (y) ++ sl p a m) := by
            show _ = _
            rw [Hbs.out, show gp false n f P k = y from by rw [Hgp.out]; rw [if_neg (fun h => by cases h.1)]]
          go_wp2_with fail
          go_loopw [13, 16] (fun qv jv wr => ∃ j : Nat, j ≤ y ∧ jv = .int .i64 (j : Nat) ∧ wr.ownsRow w3.heap.size 5 1 qv (B0 ++ bl.take j).length (bc (B0 ++ bl.take j)) ∧ Below w3.heap.size w3 wr) (fun _ jv _ => (y) - (intOf jv).toNat)
          case atStart => exact ⟨0, Nat.zero_le _, rfl, by rw [List.take_zero, List.append_nil]; exact Hown.out, Hbe.out⟩
          case round =>
            obtain ⟨j, hj, rfl, hown, hbe⟩ := hrel
            have hszr := hbe.size
            have hblj : (B0 ++ bl.take j).length ≤ 6010 := by
              rw [List.length_append, List.length_take]
              have : bl.length = 4 := rfl
              omega
            by_cases hjl : j < y
            · have hlj : (j : Int) < (y : Int) := by omega
              have hj4 : j < 4 := by omega
              have hj4i : (j : Int) < 4 := by omega
              have hsucc := bl_succ hj4
              have hv : ∀ hj, (({ data := #[32, 10, 9, 13] } : ByteArray)[j]'hj).toNat = bl.getD j 0 := fun hj => str_at bl (by decide) j hj
              obtain ⟨D, hD⟩ : ∃ D, bl.getD j 0 = D := ⟨_, rfl⟩
              rw [hD] at hsucc hv
              have HSu : Hid (B0 ++ bl.take (j + 1) = (B0 ++ bl.take j) ++ [D]) := by show _ = _; rw [hsucc, List.append_assoc]
              obtain ⟨X, hX⟩ : ∃ X, B0 ++ bl.take j = X := ⟨_, rfl⟩
              rw [hX] at HSu hown hblj
              obtain ⟨xl, hxl⟩ : ∃ xl, X.length = xl := ⟨_, rfl⟩
              have Hxl := hidden hxl
              rw [hxl] at hown hblj
              have Hown2 := hidden hown
              have Hbe2 := hidden hbe
              have hnew : ∀ j u, ([Value.int .u8 (D : Nat)] : List Value)[j]? = some u → (wr.alloc (.cells #[.int .u8 (D : Nat)] 5)).cell? ((⟨wr.heap.size, 0, none⟩ : Addr).add j) = some u := PlatenLayout.cells_new wr 5 [.int .u8 (D : Nat)]
              have Hnew := hidden hnew
              have Hoa := hidden (PlatenLayout.row_grown hown (PlatenLayout.grownBy_alloc wr (.cells #[.int .u8 (D : Nat)] 5)) (by simp))
              have hza : w3.heap.size ≤ (wr.alloc (.cells #[.int .u8 (D : Nat)] 5)).heap.size := by simp; omega
              have Hza := hidden hza
              clear hX hxl hD hsucc hown hbe hnew hza z0 z1 z2 hca hwam htn h0am hvc hle hsb
              go_wp2_with (at_builtin; refine wpList_append_own _ rfl (.tmp 91) (.tmp 94) 22 rfl w3.heap.size 5 i0 (.int .u8 0) 1 1 Try.underlying22 hi hz0 hz1 hz2 rfl (by decide) _ xl (bc X) rfl Hoa.out ⟨wr.heap.size, 0, none⟩ 1 1 [.int .u8 (D : Nat)] rfl rfl Hnew.out (by intro u hu; simp at hu; subst hu; rfl) (by unfold maxLen; omega) (by omega) Hza.out ?_)
              intro v' w' ho hgr _
              have HO := hidden ho
              have HB9 := hidden ((Hbe2.out.alloc hszr (.cells #[.int .u8 (D : Nat)] 5)).grown hgr Hza.out (fun j hj => (Hoa.out.lt j hj).1))
              clear ho hgr
              go_wp2_with fail
              go_roundw
              case rel =>
                refine ⟨j + 1, by omega, by go_num, ?_, HB9.out⟩
                rw [HSu.out, bc_app, List.length_append, Hxl.out]
                exact HO.out
              case measure => simp [intOf]; omega
            · have hje : j = y := by omega
              have hlj : ¬ ((j : Int) < (y : Int)) := by omega
              rw [hje] at hown hblj
              obtain ⟨X, hX⟩ : ∃ X, B0 ++ bl.take (y) = X := ⟨_, rfl⟩
              rw [hX] at hown hblj HG
              obtain ⟨xl, hxl⟩ : ∃ xl, X.length = xl := ⟨_, rfl⟩
              have Hxl := hidden hxl
              rw [hxl] at hown hblj
              have Hown2 := hidden hown
              have Hbe2 := hidden hbe
              have Hm1 := hidden hm1
              clear hX hxl hown hbe hje hj hm1
              go_wp2_with fail
              refine wp_region_held_drew (S := SF tg k kd a m b (off + a) (vc - a) (sl p a m)) (by kernel_rfl) (HS.out _ (PlatenLayout.below_drew Hbe2.out)) (fun hHeld => ?_)
              have hS0 : SF tg k kd a m b (off + a) (vc - a) (sl p a m) wr.drew := HS.out _ (PlatenLayout.below_drew Hbe2.out)
              refine take_dst 0 (some 96) rfl rfl (by kernel_rfl) (by kernel_rfl) (by kernel_rfl) (fun _ _ _ h => h) (v := ?_) (Or.inl ⟨by rfl, ?_⟩) (by assumption) ?_
              rotate_left
              · (intro w hSw; obtain ⟨⟨s0, s1, s2⟩, sr⟩ := hSw; go_simp; try with_reducible rfl)
              simp only [Act.put, List.setIfInBounds_toArray, List.set_cons_zero, List.set_cons_succ]
              refine take_dst 1 (some 97) rfl rfl (by kernel_rfl) (by kernel_rfl) (by kernel_rfl) (fun _ _ _ h => h) (v := ?_) (Or.inl ⟨by rfl, ?_⟩) (by assumption) ?_
              rotate_left
              · (intro w hSw; obtain ⟨⟨s0, s1, s2⟩, sr⟩ := hSw; go_simp; try with_reducible rfl)
              simp only [Act.put, List.setIfInBounds_toArray, List.set_cons_zero, List.set_cons_succ]
              refine take_dst 2 (some 98) rfl rfl (by kernel_rfl) (by kernel_rfl) (by kernel_rfl) (fun _ _ _ h => h) (v := ?_) (Or.inl ⟨by rfl, ?_⟩) (by assumption) ?_
              rotate_left
              · (intro w hSw; obtain ⟨⟨s0, s1, s2⟩, sr⟩ := hSw; go_simp; try with_reducible rfl)
              simp only [Act.put, List.setIfInBounds_toArray, List.set_cons_zero, List.set_cons_succ]
              refine take_dst 3 (some 99) rfl rfl (by kernel_rfl) (by kernel_rfl) (by kernel_rfl) (fun _ _ _ h => h) (v := ?_) (Or.inl ⟨by rfl, ?_⟩) (by assumption) ?_
              rotate_left
              · (intro w hSw; obtain ⟨⟨s0, s1, s2⟩, sr⟩ := hSw; go_simp; try with_reducible rfl)
              simp only [Act.put, List.setIfInBounds_toArray, List.set_cons_zero, List.set_cons_succ]
              refine take_dst 4 (some 100) rfl rfl (by kernel_rfl) (by kernel_rfl) (by kernel_rfl) (fun _ _ _ h => h) (v := ?_) (Or.inl ⟨by rfl, ?_⟩) (by assumption) ?_
              rotate_left
              · (intro w hSw; obtain ⟨⟨s0, s1, s2⟩, sr⟩ := hSw; go_simp; try with_reducible rfl)
              simp only [Act.put, List.setIfInBounds_toArray, List.set_cons_zero, List.set_cons_succ]
              refine take_dst 5 (some 101) rfl rfl (by kernel_rfl) (by kernel_rfl) (by kernel_rfl) (fun _ _ _ h => h) (v := ?_) (Or.inl ⟨by rfl, ?_⟩) (by assumption) ?_
              rotate_left
              · (intro w hSw; obtain ⟨⟨s0, s1, s2⟩, sr⟩ := hSw; go_simp; try with_reducible rfl)
              simp only [Act.put, List.setIfInBounds_toArray, List.set_cons_zero, List.set_cons_succ]
              refine take_dst 6 (some 102) rfl rfl (by kernel_rfl) (by kernel_rfl) (by kernel_rfl) (fun _ _ _ h => h) (v := ?_) (Or.inl ⟨by rfl, ?_⟩) (by assumption) ?_
              rotate_left
              · (intro w hSw; obtain ⟨⟨s0, s1, s2⟩, sr⟩ := hSw; go_simp; try with_reducible rfl)
              simp only [Act.put, List.setIfInBounds_toArray, List.set_cons_zero, List.set_cons_succ]
              refine take_dst 7 (some 103) rfl rfl (by kernel_rfl) (by kernel_rfl) (by kernel_rfl) (fun _ _ _ h => h) (v := ?_) (Or.inl ⟨by rfl, ?_⟩) (by assumption) ?_
              rotate_left
              · (intro w hSw; obtain ⟨⟨s0, s1, s2⟩, sr⟩ := hSw; go_simp; try with_reducible rfl)
              simp only [Act.put, List.setIfInBounds_toArray, List.set_cons_zero, List.set_cons_succ]
              refine take_dst 8 (some 104) rfl rfl (by kernel_rfl) (by kernel_rfl) (by kernel_rfl) (fun _ _ _ h => h) (v := ?_) (Or.inl ⟨by rfl, ?_⟩) (by assumption) ?_
              rotate_left
              · (intro w hSw; obtain ⟨⟨s0, s1, s2⟩, sr⟩ := hSw; go_simp; try with_reducible rfl)
              simp only [Act.put, List.setIfInBounds_toArray, List.set_cons_zero, List.set_cons_succ]
              refine take_dst 9 (some 105) rfl rfl (by kernel_rfl) (by kernel_rfl) (by kernel_rfl) (fun _ _ _ h => h) (v := ?_) (Or.inl ⟨by rfl, ?_⟩) (by assumption) ?_
              rotate_left
              · (intro w hSw; obtain ⟨⟨s0, s1, s2⟩, sr⟩ := hSw; go_simp; try with_reducible rfl)
              simp only [Act.put, List.setIfInBounds_toArray, List.set_cons_zero, List.set_cons_succ]
              refine take_dst 10 (some 106) rfl rfl (by kernel_rfl) (by kernel_rfl) (by kernel_rfl) (fun _ _ _ h => h) (v := ?_) (Or.inl ⟨by rfl, ?_⟩) (by assumption) ?_
              rotate_left
              · (intro w hSw; obtain ⟨⟨s0, s1, s2⟩, sr⟩ := hSw; go_simp; try with_reducible rfl)
              simp only [Act.put, List.setIfInBounds_toArray, List.set_cons_zero, List.set_cons_succ]
              refine take_dst 11 (some 107) rfl rfl (by kernel_rfl) (by kernel_rfl) (by kernel_rfl) (fun _ _ _ h => h) (v := ?_) (Or.inl ⟨by rfl, ?_⟩) (by assumption) ?_
              rotate_left
              · (intro w hSw; obtain ⟨⟨s0, s1, s2⟩, sr⟩ := hSw; go_simp; try with_reducible rfl)
              simp only [Act.put, List.setIfInBounds_toArray, List.set_cons_zero, List.set_cons_succ]
              refine take_dst 12 (some 108) rfl rfl (by kernel_rfl) (by kernel_rfl) (by kernel_rfl) (fun _ _ _ h => h) (v := ?_) (Or.inl ⟨by rfl, ?_⟩) (by assumption) ?_
              rotate_left
              · (intro w hSw; obtain ⟨⟨s0, s1, s2⟩, sr⟩ := hSw; go_simp; try with_reducible rfl)
              simp only [Act.put, List.setIfInBounds_toArray, List.set_cons_zero, List.set_cons_succ]
              refine take_dst 13 (some 109) rfl rfl (by kernel_rfl) (by kernel_rfl) (by kernel_rfl) (fun _ _ _ h => h) (v := ?_) (Or.inl ⟨by rfl, ?_⟩) (by assumption) ?_
              rotate_left
              · (intro w hSw; obtain ⟨⟨s0, s1, s2⟩, sr⟩ := hSw; go_simp; try with_reducible rfl)
              simp only [Act.put, List.setIfInBounds_toArray, List.set_cons_zero, List.set_cons_succ]
              refine take_dst 14 (some 110) rfl rfl (by kernel_rfl) (by kernel_rfl) (by kernel_rfl) (fun _ _ _ h => h) (v := ?_) (Or.inl ⟨by rfl, ?_⟩) (by assumption) ?_
              rotate_left
              · (intro w hSw; obtain ⟨⟨s0, s1, s2⟩, sr⟩ := hSw; go_simp; try with_reducible rfl)
              simp only [Act.put, List.setIfInBounds_toArray, List.set_cons_zero, List.set_cons_succ]
              refine take_dst 15 (some 111) rfl rfl (by kernel_rfl) (by kernel_rfl) (by kernel_rfl) (fun _ _ _ h => h) (v := ?_) (Or.inl ⟨by rfl, ?_⟩) (by assumption) ?_
              rotate_left
              · (intro w hSw; obtain ⟨⟨s0, s1, s2⟩, sr⟩ := hSw; go_simp; try with_reducible rfl)
              simp only [Act.put, List.setIfInBounds_toArray, List.set_cons_zero, List.set_cons_succ]
              refine take_dst 16 (some 112) rfl rfl (by kernel_rfl) (by kernel_rfl) (by kernel_rfl) (fun _ _ _ h => h) (v := ?_) (Or.inl ⟨by rfl, ?_⟩) (by assumption) ?_
              rotate_left
              · (intro w hSw; obtain ⟨⟨s0, s1, s2⟩, sr⟩ := hSw; go_simp; try with_reducible rfl)
              simp only [Act.put, List.setIfInBounds_toArray, List.set_cons_zero, List.set_cons_succ]
              refine take_dst 17 (some 113) rfl rfl (by kernel_rfl) (by kernel_rfl) (by kernel_rfl) (fun _ _ _ h => h) (v := ?_) (Or.inl ⟨by rfl, ?_⟩) (by assumption) ?_
              rotate_left
              · (intro w hSw; obtain ⟨⟨s0, s1, s2⟩, sr⟩ := hSw; go_simp; try with_reducible rfl)
              simp only [Act.put, List.setIfInBounds_toArray, List.set_cons_zero, List.set_cons_succ]
              refine take_dst 18 (some 114) rfl rfl (by kernel_rfl) (by kernel_rfl) (by kernel_rfl) (fun _ _ _ h => h) (v := ?_) (Or.inl ⟨by rfl, ?_⟩) (by assumption) ?_
              rotate_left
              · (intro w hSw; obtain ⟨⟨s0, s1, s2⟩, sr⟩ := hSw; go_simp; try with_reducible rfl)
              simp only [Act.put, List.setIfInBounds_toArray, List.set_cons_zero, List.set_cons_succ]
              have o2 : wr.drew.ownsRow w3.heap.size 5 1 u13 xl (bc X) := PlatenLayout.row_grown Hown2.out (PlatenLayout.grown_d _) (by simp)
              have HO2 := hidden o2
              have HNW := hidden (row_news hS0.2 Hm1.out)
              have HZ2 : Hid (w3.heap.size ≤ wr.drew.heap.size) := hszr
              clear o2
              refine wpAnyH_ready (rs := [19]) (by kernel_rfl) (by simp) ?_
              refine AllReadyH.cons rfl (fun K hK => ?_) AllReadyH.nil
              apply PlatenLayout.step_append_wh (s := .tmp 96) (x := .tmp 114) (t := 22) (base := w3.heap.size) (e := 5) (i := i0) (z := .int .u8 0) (size := 1) (bytes := 1) (v := u13) (n := xl) (xs := bc X) (ad := ⟨b, off + a, none⟩) (m := m) (c := vc - a) (news := bc (sl p a m))
              case hgd => rfl
              case hop => rfl
              case ht => exact Try.underlying22
              case hi => exact hi
              case hz => exact hz0
              case hsize => exact hz1
              case hby => exact hz2
              case hzs => rfl
              case hsz => decide
              case hs => simp [Act.eval]
              case hown => exact HO2.out
              case hx => simp [Act.eval]
              case hl => rw [bc_len, HNW.out.1]; omega
              case hnews => exact HNW.out.2
              case h1 => exact bc_one _
              case h63 => unfold maxLen; omega
              case hbytes => omega
              case hbase => exact HZ2.out
              case hm => have := Hm1.out; omega
              intro v' w7 hr7 hg7 _
              have b7 : Below w3.heap.size w3 w7 := (PlatenLayout.below_drew Hbe2.out).grown hg7.out HZ2.out (fun j hj => (HO2.out.lt j hj).1)
              refine hK.out _ _ (HS.out _ b7) (fun hHeldf => ?_)
              have HB7 := hidden b7
              have HR7 := hidden hr7.out
              clear hK K hr7 hg7 b7
              refine take_dst 20 (some 13) rfl rfl (by kernel_rfl) (by kernel_rfl) (by kernel_rfl) (fun _ _ _ h => h) (v := ?_) (Or.inl ⟨by rfl, ?_⟩) (by assumption) ?_
              rotate_left
              · (intro w hSw; go_simp; try with_reducible rfl)
              simp only [Act.put, List.setIfInBounds_toArray]
              refine wpAnyH_done (by kernel_rfl) ?_ _
              clear hHeld hHeldf hS0
              go_wp2_with fail
              go_roundw
              case rel =>
                refine ⟨k + 1, by omega, by go_num, ?_, HB7.out⟩
                rw [HG.out, bc_app, List.length_append, Hxl.out, HNW.out.1]
                exact HR7.out
              case measure => simp [intOf]; omega
        | true =>
          rcases Nat.eq_zero_or_pos k with hk0 | hk0
          · have hkz : (0 < k) = False := eq_false (by omega)
            have HG : Hid (bt true n f P (k + 1) = B0 ++ bl.take (y) ++ sl p a m) := by
              show _ = _
              rw [Hbs.out, show gp true n f P k = y from by rw [Hgp.out]; rw [if_neg (fun h => by omega)]]
            clear hk0
            go_wp2_with fail
            go_loopw [13, 16] (fun qv jv wr => ∃ j : Nat, j ≤ y ∧ jv = .int .i64 (j : Nat) ∧ wr.ownsRow w3.heap.size 5 1 qv (B0 ++ bl.take j).length (bc (B0 ++ bl.take j)) ∧ Below w3.heap.size w3 wr) (fun _ jv _ => (y) - (intOf jv).toNat)
            case atStart => exact ⟨0, Nat.zero_le _, rfl, by rw [List.take_zero, List.append_nil]; exact Hown.out, Hbe.out⟩
            case round =>
              obtain ⟨j, hj, rfl, hown, hbe⟩ := hrel
              have hszr := hbe.size
              have hblj : (B0 ++ bl.take j).length ≤ 6010 := by
                rw [List.length_append, List.length_take]
                have : bl.length = 4 := rfl
                omega
              by_cases hjl : j < y
              · have hlj : (j : Int) < (y : Int) := by omega
                have hj4 : j < 4 := by omega
                have hj4i : (j : Int) < 4 := by omega
                have hsucc := bl_succ hj4
                have hv : ∀ hj, (({ data := #[32, 10, 9, 13] } : ByteArray)[j]'hj).toNat = bl.getD j 0 := fun hj => str_at bl (by decide) j hj
                obtain ⟨D, hD⟩ : ∃ D, bl.getD j 0 = D := ⟨_, rfl⟩
                rw [hD] at hsucc hv
                have HSu : Hid (B0 ++ bl.take (j + 1) = (B0 ++ bl.take j) ++ [D]) := by show _ = _; rw [hsucc, List.append_assoc]
                obtain ⟨X, hX⟩ : ∃ X, B0 ++ bl.take j = X := ⟨_, rfl⟩
                rw [hX] at HSu hown hblj
                obtain ⟨xl, hxl⟩ : ∃ xl, X.length = xl := ⟨_, rfl⟩
                have Hxl := hidden hxl
                rw [hxl] at hown hblj
                have Hown2 := hidden hown
                have Hbe2 := hidden hbe
                have hnew : ∀ j u, ([Value.int .u8 (D : Nat)] : List Value)[j]? = some u → (wr.alloc (.cells #[.int .u8 (D : Nat)] 5)).cell? ((⟨wr.heap.size, 0, none⟩ : Addr).add j) = some u := PlatenLayout.cells_new wr 5 [.int .u8 (D : Nat)]
                have Hnew := hidden hnew
                have Hoa := hidden (PlatenLayout.row_grown hown (PlatenLayout.grownBy_alloc wr (.cells #[.int .u8 (D : Nat)] 5)) (by simp))
                have hza : w3.heap.size ≤ (wr.alloc (.cells #[.int .u8 (D : Nat)] 5)).heap.size := by simp; omega
                have Hza := hidden hza
                clear hX hxl hD hsucc hown hbe hnew hza z0 z1 z2 hca hwam htn h0am hvc hle hsb
                go_wp2_with (at_builtin; refine wpList_append_own _ rfl (.tmp 91) (.tmp 94) 22 rfl w3.heap.size 5 i0 (.int .u8 0) 1 1 Try.underlying22 hi hz0 hz1 hz2 rfl (by decide) _ xl (bc X) rfl Hoa.out ⟨wr.heap.size, 0, none⟩ 1 1 [.int .u8 (D : Nat)] rfl rfl Hnew.out (by intro u hu; simp at hu; subst hu; rfl) (by unfold maxLen; omega) (by omega) Hza.out ?_)
                intro v' w' ho hgr _
                have HO := hidden ho
                have HB9 := hidden ((Hbe2.out.alloc hszr (.cells #[.int .u8 (D : Nat)] 5)).grown hgr Hza.out (fun j hj => (Hoa.out.lt j hj).1))
                clear ho hgr
                go_wp2_with fail
                go_roundw
                case rel =>
                  refine ⟨j + 1, by omega, by go_num, ?_, HB9.out⟩
                  rw [HSu.out, bc_app, List.length_append, Hxl.out]
                  exact HO.out
                case measure => simp [intOf]; omega
              · have hje : j = y := by omega
                have hlj : ¬ ((j : Int) < (y : Int)) := by omega
                rw [hje] at hown hblj
                obtain ⟨X, hX⟩ : ∃ X, B0 ++ bl.take (y) = X := ⟨_, rfl⟩
                rw [hX] at hown hblj HG
                obtain ⟨xl, hxl⟩ : ∃ xl, X.length = xl := ⟨_, rfl⟩
                have Hxl := hidden hxl
                rw [hxl] at hown hblj
                have Hown2 := hidden hown
                have Hbe2 := hidden hbe
                have Hm1 := hidden hm1
                clear hX hxl hown hbe hje hj hm1
                go_wp2_with fail
                refine wp_region_held_drew (S := SF tg k kd a m b (off + a) (vc - a) (sl p a m)) (by kernel_rfl) (HS.out _ (PlatenLayout.below_drew Hbe2.out)) (fun hHeld => ?_)
                have hS0 : SF tg k kd a m b (off + a) (vc - a) (sl p a m) wr.drew := HS.out _ (PlatenLayout.below_drew Hbe2.out)
                refine take_dst 0 (some 96) rfl rfl (by kernel_rfl) (by kernel_rfl) (by kernel_rfl) (fun _ _ _ h => h) (v := ?_) (Or.inl ⟨by rfl, ?_⟩) (by assumption) ?_
                rotate_left
                · (intro w hSw; obtain ⟨⟨s0, s1, s2⟩, sr⟩ := hSw; go_simp; try with_reducible rfl)
                simp only [Act.put, List.setIfInBounds_toArray, List.set_cons_zero, List.set_cons_succ]
                refine take_dst 1 (some 97) rfl rfl (by kernel_rfl) (by kernel_rfl) (by kernel_rfl) (fun _ _ _ h => h) (v := ?_) (Or.inl ⟨by rfl, ?_⟩) (by assumption) ?_
                rotate_left
                · (intro w hSw; obtain ⟨⟨s0, s1, s2⟩, sr⟩ := hSw; go_simp; try with_reducible rfl)
                simp only [Act.put, List.setIfInBounds_toArray, List.set_cons_zero, List.set_cons_succ]
                refine take_dst 2 (some 98) rfl rfl (by kernel_rfl) (by kernel_rfl) (by kernel_rfl) (fun _ _ _ h => h) (v := ?_) (Or.inl ⟨by rfl, ?_⟩) (by assumption) ?_
                rotate_left
                · (intro w hSw; obtain ⟨⟨s0, s1, s2⟩, sr⟩ := hSw; go_simp; try with_reducible rfl)
                simp only [Act.put, List.setIfInBounds_toArray, List.set_cons_zero, List.set_cons_succ]
                refine take_dst 3 (some 99) rfl rfl (by kernel_rfl) (by kernel_rfl) (by kernel_rfl) (fun _ _ _ h => h) (v := ?_) (Or.inl ⟨by rfl, ?_⟩) (by assumption) ?_
                rotate_left
                · (intro w hSw; obtain ⟨⟨s0, s1, s2⟩, sr⟩ := hSw; go_simp; try with_reducible rfl)
                simp only [Act.put, List.setIfInBounds_toArray, List.set_cons_zero, List.set_cons_succ]
                refine take_dst 4 (some 100) rfl rfl (by kernel_rfl) (by kernel_rfl) (by kernel_rfl) (fun _ _ _ h => h) (v := ?_) (Or.inl ⟨by rfl, ?_⟩) (by assumption) ?_
                rotate_left
                · (intro w hSw; obtain ⟨⟨s0, s1, s2⟩, sr⟩ := hSw; go_simp; try with_reducible rfl)
                simp only [Act.put, List.setIfInBounds_toArray, List.set_cons_zero, List.set_cons_succ]
                refine take_dst 5 (some 101) rfl rfl (by kernel_rfl) (by kernel_rfl) (by kernel_rfl) (fun _ _ _ h => h) (v := ?_) (Or.inl ⟨by rfl, ?_⟩) (by assumption) ?_
                rotate_left
                · (intro w hSw; obtain ⟨⟨s0, s1, s2⟩, sr⟩ := hSw; go_simp; try with_reducible rfl)
                simp only [Act.put, List.setIfInBounds_toArray, List.set_cons_zero, List.set_cons_succ]
                refine take_dst 6 (some 102) rfl rfl (by kernel_rfl) (by kernel_rfl) (by kernel_rfl) (fun _ _ _ h => h) (v := ?_) (Or.inl ⟨by rfl, ?_⟩) (by assumption) ?_
                rotate_left
                · (intro w hSw; obtain ⟨⟨s0, s1, s2⟩, sr⟩ := hSw; go_simp; try with_reducible rfl)
                simp only [Act.put, List.setIfInBounds_toArray, List.set_cons_zero, List.set_cons_succ]
                refine take_dst 7 (some 103) rfl rfl (by kernel_rfl) (by kernel_rfl) (by kernel_rfl) (fun _ _ _ h => h) (v := ?_) (Or.inl ⟨by rfl, ?_⟩) (by assumption) ?_
                rotate_left
                · (intro w hSw; obtain ⟨⟨s0, s1, s2⟩, sr⟩ := hSw; go_simp; try with_reducible rfl)
                simp only [Act.put, List.setIfInBounds_toArray, List.set_cons_zero, List.set_cons_succ]
                refine take_dst 8 (some 104) rfl rfl (by kernel_rfl) (by kernel_rfl) (by kernel_rfl) (fun _ _ _ h => h) (v := ?_) (Or.inl ⟨by rfl, ?_⟩) (by assumption) ?_
                rotate_left
                · (intro w hSw; obtain ⟨⟨s0, s1, s2⟩, sr⟩ := hSw; go_simp; try with_reducible rfl)
                simp only [Act.put, List.setIfInBounds_toArray, List.set_cons_zero, List.set_cons_succ]
                refine take_dst 9 (some 105) rfl rfl (by kernel_rfl) (by kernel_rfl) (by kernel_rfl) (fun _ _ _ h => h) (v := ?_) (Or.inl ⟨by rfl, ?_⟩) (by assumption) ?_
                rotate_left
                · (intro w hSw; obtain ⟨⟨s0, s1, s2⟩, sr⟩ := hSw; go_simp; try with_reducible rfl)
                simp only [Act.put, List.setIfInBounds_toArray, List.set_cons_zero, List.set_cons_succ]
                refine take_dst 10 (some 106) rfl rfl (by kernel_rfl) (by kernel_rfl) (by kernel_rfl) (fun _ _ _ h => h) (v := ?_) (Or.inl ⟨by rfl, ?_⟩) (by assumption) ?_
                rotate_left
                · (intro w hSw; obtain ⟨⟨s0, s1, s2⟩, sr⟩ := hSw; go_simp; try with_reducible rfl)
                simp only [Act.put, List.setIfInBounds_toArray, List.set_cons_zero, List.set_cons_succ]
                refine take_dst 11 (some 107) rfl rfl (by kernel_rfl) (by kernel_rfl) (by kernel_rfl) (fun _ _ _ h => h) (v := ?_) (Or.inl ⟨by rfl, ?_⟩) (by assumption) ?_
                rotate_left
                · (intro w hSw; obtain ⟨⟨s0, s1, s2⟩, sr⟩ := hSw; go_simp; try with_reducible rfl)
                simp only [Act.put, List.setIfInBounds_toArray, List.set_cons_zero, List.set_cons_succ]
                refine take_dst 12 (some 108) rfl rfl (by kernel_rfl) (by kernel_rfl) (by kernel_rfl) (fun _ _ _ h => h) (v := ?_) (Or.inl ⟨by rfl, ?_⟩) (by assumption) ?_
                rotate_left
                · (intro w hSw; obtain ⟨⟨s0, s1, s2⟩, sr⟩ := hSw; go_simp; try with_reducible rfl)
                simp only [Act.put, List.setIfInBounds_toArray, List.set_cons_zero, List.set_cons_succ]
                refine take_dst 13 (some 109) rfl rfl (by kernel_rfl) (by kernel_rfl) (by kernel_rfl) (fun _ _ _ h => h) (v := ?_) (Or.inl ⟨by rfl, ?_⟩) (by assumption) ?_
                rotate_left
                · (intro w hSw; obtain ⟨⟨s0, s1, s2⟩, sr⟩ := hSw; go_simp; try with_reducible rfl)
                simp only [Act.put, List.setIfInBounds_toArray, List.set_cons_zero, List.set_cons_succ]
                refine take_dst 14 (some 110) rfl rfl (by kernel_rfl) (by kernel_rfl) (by kernel_rfl) (fun _ _ _ h => h) (v := ?_) (Or.inl ⟨by rfl, ?_⟩) (by assumption) ?_
                rotate_left
                · (intro w hSw; obtain ⟨⟨s0, s1, s2⟩, sr⟩ := hSw; go_simp; try with_reducible rfl)
                simp only [Act.put, List.setIfInBounds_toArray, List.set_cons_zero, List.set_cons_succ]
                refine take_dst 15 (some 111) rfl rfl (by kernel_rfl) (by kernel_rfl) (by kernel_rfl) (fun _ _ _ h => h) (v := ?_) (Or.inl ⟨by rfl, ?_⟩) (by assumption) ?_
                rotate_left
                · (intro w hSw; obtain ⟨⟨s0, s1, s2⟩, sr⟩ := hSw; go_simp; try with_reducible rfl)
                simp only [Act.put, List.setIfInBounds_toArray, List.set_cons_zero, List.set_cons_succ]
                refine take_dst 16 (some 112) rfl rfl (by kernel_rfl) (by kernel_rfl) (by kernel_rfl) (fun _ _ _ h => h) (v := ?_) (Or.inl ⟨by rfl, ?_⟩) (by assumption) ?_
                rotate_left
                · (intro w hSw; obtain ⟨⟨s0, s1, s2⟩, sr⟩ := hSw; go_simp; try with_reducible rfl)
                simp only [Act.put, List.setIfInBounds_toArray, List.set_cons_zero, List.set_cons_succ]
                refine take_dst 17 (some 113) rfl rfl (by kernel_rfl) (by kernel_rfl) (by kernel_rfl) (fun _ _ _ h => h) (v := ?_) (Or.inl ⟨by rfl, ?_⟩) (by assumption) ?_
                rotate_left
                · (intro w hSw; obtain ⟨⟨s0, s1, s2⟩, sr⟩ := hSw; go_simp; try with_reducible rfl)
                simp only [Act.put, List.setIfInBounds_toArray, List.set_cons_zero, List.set_cons_succ]
                refine take_dst 18 (some 114) rfl rfl (by kernel_rfl) (by kernel_rfl) (by kernel_rfl) (fun _ _ _ h => h) (v := ?_) (Or.inl ⟨by rfl, ?_⟩) (by assumption) ?_
                rotate_left
                · (intro w hSw; obtain ⟨⟨s0, s1, s2⟩, sr⟩ := hSw; go_simp; try with_reducible rfl)
                simp only [Act.put, List.setIfInBounds_toArray, List.set_cons_zero, List.set_cons_succ]
                have o2 : wr.drew.ownsRow w3.heap.size 5 1 u13 xl (bc X) := PlatenLayout.row_grown Hown2.out (PlatenLayout.grown_d _) (by simp)
                have HO2 := hidden o2
                have HNW := hidden (row_news hS0.2 Hm1.out)
                have HZ2 : Hid (w3.heap.size ≤ wr.drew.heap.size) := hszr
                clear o2
                refine wpAnyH_ready (rs := [19]) (by kernel_rfl) (by simp) ?_
                refine AllReadyH.cons rfl (fun K hK => ?_) AllReadyH.nil
                apply PlatenLayout.step_append_wh (s := .tmp 96) (x := .tmp 114) (t := 22) (base := w3.heap.size) (e := 5) (i := i0) (z := .int .u8 0) (size := 1) (bytes := 1) (v := u13) (n := xl) (xs := bc X) (ad := ⟨b, off + a, none⟩) (m := m) (c := vc - a) (news := bc (sl p a m))
                case hgd => rfl
                case hop => rfl
                case ht => exact Try.underlying22
                case hi => exact hi
                case hz => exact hz0
                case hsize => exact hz1
                case hby => exact hz2
                case hzs => rfl
                case hsz => decide
                case hs => simp [Act.eval]
                case hown => exact HO2.out
                case hx => simp [Act.eval]
                case hl => rw [bc_len, HNW.out.1]; omega
                case hnews => exact HNW.out.2
                case h1 => exact bc_one _
                case h63 => unfold maxLen; omega
                case hbytes => omega
                case hbase => exact HZ2.out
                case hm => have := Hm1.out; omega
                intro v' w7 hr7 hg7 _
                have b7 : Below w3.heap.size w3 w7 := (PlatenLayout.below_drew Hbe2.out).grown hg7.out HZ2.out (fun j hj => (HO2.out.lt j hj).1)
                refine hK.out _ _ (HS.out _ b7) (fun hHeldf => ?_)
                have HB7 := hidden b7
                have HR7 := hidden hr7.out
                clear hK K hr7 hg7 b7
                refine take_dst 20 (some 13) rfl rfl (by kernel_rfl) (by kernel_rfl) (by kernel_rfl) (fun _ _ _ h => h) (v := ?_) (Or.inl ⟨by rfl, ?_⟩) (by assumption) ?_
                rotate_left
                · (intro w hSw; go_simp; try with_reducible rfl)
                simp only [Act.put, List.setIfInBounds_toArray]
                refine wpAnyH_done (by kernel_rfl) ?_ _
                clear hHeld hHeldf hS0
                go_wp2_with fail
                go_roundw
                case rel =>
                  refine ⟨k + 1, by omega, by go_num, ?_, HB7.out⟩
                  rw [HG.out, bc_app, List.length_append, Hxl.out, HNW.out.1]
                  exact HR7.out
                case measure => simp [intOf]; omega
          · have hkz : (k : Int) > 0 := by omega
            have hkz2 : (0 : Int) < (k : Int) := by omega
            rcases Nat.eq_zero_or_pos y with hy0 | hy0
            · subst hy0
              by_cases h5 : kd = 5
              · have h5z : ((kd : Int) == 5) = true := by rw [h5]; rfl
                have HG : Hid (bt true n f P (k + 1) = B0 ++ bl.take (1) ++ sl p a m) := by
                  show _ = _
                  rw [Hbs.out, show gp true n f P k = 1 from by rw [Hgp.out]; rw [if_pos ⟨rfl, hk0, rfl, h5⟩]]
                go_wp2_with fail
                go_loopw [13, 16] (fun qv jv wr => ∃ j : Nat, j ≤ 1 ∧ jv = .int .i64 (j : Nat) ∧ wr.ownsRow w3.heap.size 5 1 qv (B0 ++ bl.take j).length (bc (B0 ++ bl.take j)) ∧ Below w3.heap.size w3 wr) (fun _ jv _ => (1) - (intOf jv).toNat)
                case atStart => exact ⟨0, Nat.zero_le _, rfl, by rw [List.take_zero, List.append_nil]; exact Hown.out, Hbe.out⟩
                case round =>
                  obtain ⟨j, hj, rfl, hown, hbe⟩ := hrel
                  have hszr := hbe.size
                  have hblj : (B0 ++ bl.take j).length ≤ 6010 := by
                    rw [List.length_append, List.length_take]
                    have : bl.length = 4 := rfl
                    omega
                  by_cases hjl : j < 1
                  · have hlj : (j : Int) < 1 := by omega
                    have hj4 : j < 4 := by omega
                    have hj4i : (j : Int) < 4 := by omega
                    have hsucc := bl_succ hj4
                    have hv : ∀ hj, (({ data := #[32, 10, 9, 13] } : ByteArray)[j]'hj).toNat = bl.getD j 0 := fun hj => str_at bl (by decide) j hj
                    obtain ⟨D, hD⟩ : ∃ D, bl.getD j 0 = D := ⟨_, rfl⟩
                    rw [hD] at hsucc hv
                    have HSu : Hid (B0 ++ bl.take (j + 1) = (B0 ++ bl.take j) ++ [D]) := by show _ = _; rw [hsucc, List.append_assoc]
                    obtain ⟨X, hX⟩ : ∃ X, B0 ++ bl.take j = X := ⟨_, rfl⟩
                    rw [hX] at HSu hown hblj
                    obtain ⟨xl, hxl⟩ : ∃ xl, X.length = xl := ⟨_, rfl⟩
                    have Hxl := hidden hxl
                    rw [hxl] at hown hblj
                    have Hown2 := hidden hown
                    have Hbe2 := hidden hbe
                    have hnew : ∀ j u, ([Value.int .u8 (D : Nat)] : List Value)[j]? = some u → (wr.alloc (.cells #[.int .u8 (D : Nat)] 5)).cell? ((⟨wr.heap.size, 0, none⟩ : Addr).add j) = some u := PlatenLayout.cells_new wr 5 [.int .u8 (D : Nat)]
                    have Hnew := hidden hnew
                    have Hoa := hidden (PlatenLayout.row_grown hown (PlatenLayout.grownBy_alloc wr (.cells #[.int .u8 (D : Nat)] 5)) (by simp))
                    have hza : w3.heap.size ≤ (wr.alloc (.cells #[.int .u8 (D : Nat)] 5)).heap.size := by simp; omega
                    have Hza := hidden hza
                    clear hX hxl hD hsucc hown hbe hnew hza z0 z1 z2 hca hwam htn h0am hvc hle hsb
                    go_wp2_with (at_builtin; refine wpList_append_own _ rfl (.tmp 91) (.tmp 94) 22 rfl w3.heap.size 5 i0 (.int .u8 0) 1 1 Try.underlying22 hi hz0 hz1 hz2 rfl (by decide) _ xl (bc X) rfl Hoa.out ⟨wr.heap.size, 0, none⟩ 1 1 [.int .u8 (D : Nat)] rfl rfl Hnew.out (by intro u hu; simp at hu; subst hu; rfl) (by unfold maxLen; omega) (by omega) Hza.out ?_)
                    intro v' w' ho hgr _
                    have HO := hidden ho
                    have HB9 := hidden ((Hbe2.out.alloc hszr (.cells #[.int .u8 (D : Nat)] 5)).grown hgr Hza.out (fun j hj => (Hoa.out.lt j hj).1))
                    clear ho hgr
                    go_wp2_with fail
                    go_roundw
                    case rel =>
                      refine ⟨j + 1, by omega, by go_num, ?_, HB9.out⟩
                      rw [HSu.out, bc_app, List.length_append, Hxl.out]
                      exact HO.out
                    case measure => simp [intOf]; omega
                  · have hje : j = 1 := by omega
                    have hlj : ¬ ((j : Int) < 1) := by omega
                    rw [hje] at hown hblj
                    obtain ⟨X, hX⟩ : ∃ X, B0 ++ bl.take (1) = X := ⟨_, rfl⟩
                    rw [hX] at hown hblj HG
                    obtain ⟨xl, hxl⟩ : ∃ xl, X.length = xl := ⟨_, rfl⟩
                    have Hxl := hidden hxl
                    rw [hxl] at hown hblj
                    have Hown2 := hidden hown
                    have Hbe2 := hidden hbe
                    have Hm1 := hidden hm1
                    clear hX hxl hown hbe hje hj hm1
                    go_wp2_with fail
                    refine wp_region_held_drew (S := SF tg k kd a m b (off + a) (vc - a) (sl p a m)) (by kernel_rfl) (HS.out _ (PlatenLayout.below_drew Hbe2.out)) (fun hHeld => ?_)
                    have hS0 : SF tg k kd a m b (off + a) (vc - a) (sl p a m) wr.drew := HS.out _ (PlatenLayout.below_drew Hbe2.out)
                    refine take_dst 0 (some 96) rfl rfl (by kernel_rfl) (by kernel_rfl) (by kernel_rfl) (fun _ _ _ h => h) (v := ?_) (Or.inl ⟨by rfl, ?_⟩) (by assumption) ?_
                    rotate_left
                    · (intro w hSw; obtain ⟨⟨s0, s1, s2⟩, sr⟩ := hSw; go_simp; try with_reducible rfl)
                    simp only [Act.put, List.setIfInBounds_toArray, List.set_cons_zero, List.set_cons_succ]
                    refine take_dst 1 (some 97) rfl rfl (by kernel_rfl) (by kernel_rfl) (by kernel_rfl) (fun _ _ _ h => h) (v := ?_) (Or.inl ⟨by rfl, ?_⟩) (by assumption) ?_
                    rotate_left
                    · (intro w hSw; obtain ⟨⟨s0, s1, s2⟩, sr⟩ := hSw; go_simp; try with_reducible rfl)
                    simp only [Act.put, List.setIfInBounds_toArray, List.set_cons_zero, List.set_cons_succ]
                    refine take_dst 2 (some 98) rfl rfl (by kernel_rfl) (by kernel_rfl) (by kernel_rfl) (fun _ _ _ h => h) (v := ?_) (Or.inl ⟨by rfl, ?_⟩) (by assumption) ?_
                    rotate_left
                    · (intro w hSw; obtain ⟨⟨s0, s1, s2⟩, sr⟩ := hSw; go_simp; try with_reducible rfl)
                    simp only [Act.put, List.setIfInBounds_toArray, List.set_cons_zero, List.set_cons_succ]
                    refine take_dst 3 (some 99) rfl rfl (by kernel_rfl) (by kernel_rfl) (by kernel_rfl) (fun _ _ _ h => h) (v := ?_) (Or.inl ⟨by rfl, ?_⟩) (by assumption) ?_
                    rotate_left
                    · (intro w hSw; obtain ⟨⟨s0, s1, s2⟩, sr⟩ := hSw; go_simp; try with_reducible rfl)
                    simp only [Act.put, List.setIfInBounds_toArray, List.set_cons_zero, List.set_cons_succ]
                    refine take_dst 4 (some 100) rfl rfl (by kernel_rfl) (by kernel_rfl) (by kernel_rfl) (fun _ _ _ h => h) (v := ?_) (Or.inl ⟨by rfl, ?_⟩) (by assumption) ?_
                    rotate_left
                    · (intro w hSw; obtain ⟨⟨s0, s1, s2⟩, sr⟩ := hSw; go_simp; try with_reducible rfl)
                    simp only [Act.put, List.setIfInBounds_toArray, List.set_cons_zero, List.set_cons_succ]
                    refine take_dst 5 (some 101) rfl rfl (by kernel_rfl) (by kernel_rfl) (by kernel_rfl) (fun _ _ _ h => h) (v := ?_) (Or.inl ⟨by rfl, ?_⟩) (by assumption) ?_
                    rotate_left
                    · (intro w hSw; obtain ⟨⟨s0, s1, s2⟩, sr⟩ := hSw; go_simp; try with_reducible rfl)
                    simp only [Act.put, List.setIfInBounds_toArray, List.set_cons_zero, List.set_cons_succ]
                    refine take_dst 6 (some 102) rfl rfl (by kernel_rfl) (by kernel_rfl) (by kernel_rfl) (fun _ _ _ h => h) (v := ?_) (Or.inl ⟨by rfl, ?_⟩) (by assumption) ?_
                    rotate_left
                    · (intro w hSw; obtain ⟨⟨s0, s1, s2⟩, sr⟩ := hSw; go_simp; try with_reducible rfl)
                    simp only [Act.put, List.setIfInBounds_toArray, List.set_cons_zero, List.set_cons_succ]
                    refine take_dst 7 (some 103) rfl rfl (by kernel_rfl) (by kernel_rfl) (by kernel_rfl) (fun _ _ _ h => h) (v := ?_) (Or.inl ⟨by rfl, ?_⟩) (by assumption) ?_
                    rotate_left
                    · (intro w hSw; obtain ⟨⟨s0, s1, s2⟩, sr⟩ := hSw; go_simp; try with_reducible rfl)
                    simp only [Act.put, List.setIfInBounds_toArray, List.set_cons_zero, List.set_cons_succ]
                    refine take_dst 8 (some 104) rfl rfl (by kernel_rfl) (by kernel_rfl) (by kernel_rfl) (fun _ _ _ h => h) (v := ?_) (Or.inl ⟨by rfl, ?_⟩) (by assumption) ?_
                    rotate_left
                    · (intro w hSw; obtain ⟨⟨s0, s1, s2⟩, sr⟩ := hSw; go_simp; try with_reducible rfl)
                    simp only [Act.put, List.setIfInBounds_toArray, List.set_cons_zero, List.set_cons_succ]
                    refine take_dst 9 (some 105) rfl rfl (by kernel_rfl) (by kernel_rfl) (by kernel_rfl) (fun _ _ _ h => h) (v := ?_) (Or.inl ⟨by rfl, ?_⟩) (by assumption) ?_
                    rotate_left
                    · (intro w hSw; obtain ⟨⟨s0, s1, s2⟩, sr⟩ := hSw; go_simp; try with_reducible rfl)
                    simp only [Act.put, List.setIfInBounds_toArray, List.set_cons_zero, List.set_cons_succ]
                    refine take_dst 10 (some 106) rfl rfl (by kernel_rfl) (by kernel_rfl) (by kernel_rfl) (fun _ _ _ h => h) (v := ?_) (Or.inl ⟨by rfl, ?_⟩) (by assumption) ?_
                    rotate_left
                    · (intro w hSw; obtain ⟨⟨s0, s1, s2⟩, sr⟩ := hSw; go_simp; try with_reducible rfl)
                    simp only [Act.put, List.setIfInBounds_toArray, List.set_cons_zero, List.set_cons_succ]
                    refine take_dst 11 (some 107) rfl rfl (by kernel_rfl) (by kernel_rfl) (by kernel_rfl) (fun _ _ _ h => h) (v := ?_) (Or.inl ⟨by rfl, ?_⟩) (by assumption) ?_
                    rotate_left
                    · (intro w hSw; obtain ⟨⟨s0, s1, s2⟩, sr⟩ := hSw; go_simp; try with_reducible rfl)
                    simp only [Act.put, List.setIfInBounds_toArray, List.set_cons_zero, List.set_cons_succ]
                    refine take_dst 12 (some 108) rfl rfl (by kernel_rfl) (by kernel_rfl) (by kernel_rfl) (fun _ _ _ h => h) (v := ?_) (Or.inl ⟨by rfl, ?_⟩) (by assumption) ?_
                    rotate_left
                    · (intro w hSw; obtain ⟨⟨s0, s1, s2⟩, sr⟩ := hSw; go_simp; try with_reducible rfl)
                    simp only [Act.put, List.setIfInBounds_toArray, List.set_cons_zero, List.set_cons_succ]
                    refine take_dst 13 (some 109) rfl rfl (by kernel_rfl) (by kernel_rfl) (by kernel_rfl) (fun _ _ _ h => h) (v := ?_) (Or.inl ⟨by rfl, ?_⟩) (by assumption) ?_
                    rotate_left
                    · (intro w hSw; obtain ⟨⟨s0, s1, s2⟩, sr⟩ := hSw; go_simp; try with_reducible rfl)
                    simp only [Act.put, List.setIfInBounds_toArray, List.set_cons_zero, List.set_cons_succ]
                    refine take_dst 14 (some 110) rfl rfl (by kernel_rfl) (by kernel_rfl) (by kernel_rfl) (fun _ _ _ h => h) (v := ?_) (Or.inl ⟨by rfl, ?_⟩) (by assumption) ?_
                    rotate_left
                    · (intro w hSw; obtain ⟨⟨s0, s1, s2⟩, sr⟩ := hSw; go_simp; try with_reducible rfl)
                    simp only [Act.put, List.setIfInBounds_toArray, List.set_cons_zero, List.set_cons_succ]
                    refine take_dst 15 (some 111) rfl rfl (by kernel_rfl) (by kernel_rfl) (by kernel_rfl) (fun _ _ _ h => h) (v := ?_) (Or.inl ⟨by rfl, ?_⟩) (by assumption) ?_
                    rotate_left
                    · (intro w hSw; obtain ⟨⟨s0, s1, s2⟩, sr⟩ := hSw; go_simp; try with_reducible rfl)
                    simp only [Act.put, List.setIfInBounds_toArray, List.set_cons_zero, List.set_cons_succ]
                    refine take_dst 16 (some 112) rfl rfl (by kernel_rfl) (by kernel_rfl) (by kernel_rfl) (fun _ _ _ h => h) (v := ?_) (Or.inl ⟨by rfl, ?_⟩) (by assumption) ?_
                    rotate_left
                    · (intro w hSw; obtain ⟨⟨s0, s1, s2⟩, sr⟩ := hSw; go_simp; try with_reducible rfl)
                    simp only [Act.put, List.setIfInBounds_toArray, List.set_cons_zero, List.set_cons_succ]
                    refine take_dst 17 (some 113) rfl rfl (by kernel_rfl) (by kernel_rfl) (by kernel_rfl) (fun _ _ _ h => h) (v := ?_) (Or.inl ⟨by rfl, ?_⟩) (by assumption) ?_
                    rotate_left
                    · (intro w hSw; obtain ⟨⟨s0, s1, s2⟩, sr⟩ := hSw; go_simp; try with_reducible rfl)
                    simp only [Act.put, List.setIfInBounds_toArray, List.set_cons_zero, List.set_cons_succ]
                    refine take_dst 18 (some 114) rfl rfl (by kernel_rfl) (by kernel_rfl) (by kernel_rfl) (fun _ _ _ h => h) (v := ?_) (Or.inl ⟨by rfl, ?_⟩) (by assumption) ?_
                    rotate_left
                    · (intro w hSw; obtain ⟨⟨s0, s1, s2⟩, sr⟩ := hSw; go_simp; try with_reducible rfl)
                    simp only [Act.put, List.setIfInBounds_toArray, List.set_cons_zero, List.set_cons_succ]
                    have o2 : wr.drew.ownsRow w3.heap.size 5 1 u13 xl (bc X) := PlatenLayout.row_grown Hown2.out (PlatenLayout.grown_d _) (by simp)
                    have HO2 := hidden o2
                    have HNW := hidden (row_news hS0.2 Hm1.out)
                    have HZ2 : Hid (w3.heap.size ≤ wr.drew.heap.size) := hszr
                    clear o2
                    refine wpAnyH_ready (rs := [19]) (by kernel_rfl) (by simp) ?_
                    refine AllReadyH.cons rfl (fun K hK => ?_) AllReadyH.nil
                    apply PlatenLayout.step_append_wh (s := .tmp 96) (x := .tmp 114) (t := 22) (base := w3.heap.size) (e := 5) (i := i0) (z := .int .u8 0) (size := 1) (bytes := 1) (v := u13) (n := xl) (xs := bc X) (ad := ⟨b, off + a, none⟩) (m := m) (c := vc - a) (news := bc (sl p a m))
                    case hgd => rfl
                    case hop => rfl
                    case ht => exact Try.underlying22
                    case hi => exact hi
                    case hz => exact hz0
                    case hsize => exact hz1
                    case hby => exact hz2
                    case hzs => rfl
                    case hsz => decide
                    case hs => simp [Act.eval]
                    case hown => exact HO2.out
                    case hx => simp [Act.eval]
                    case hl => rw [bc_len, HNW.out.1]; omega
                    case hnews => exact HNW.out.2
                    case h1 => exact bc_one _
                    case h63 => unfold maxLen; omega
                    case hbytes => omega
                    case hbase => exact HZ2.out
                    case hm => have := Hm1.out; omega
                    intro v' w7 hr7 hg7 _
                    have b7 : Below w3.heap.size w3 w7 := (PlatenLayout.below_drew Hbe2.out).grown hg7.out HZ2.out (fun j hj => (HO2.out.lt j hj).1)
                    refine hK.out _ _ (HS.out _ b7) (fun hHeldf => ?_)
                    have HB7 := hidden b7
                    have HR7 := hidden hr7.out
                    clear hK K hr7 hg7 b7
                    refine take_dst 20 (some 13) rfl rfl (by kernel_rfl) (by kernel_rfl) (by kernel_rfl) (fun _ _ _ h => h) (v := ?_) (Or.inl ⟨by rfl, ?_⟩) (by assumption) ?_
                    rotate_left
                    · (intro w hSw; go_simp; try with_reducible rfl)
                    simp only [Act.put, List.setIfInBounds_toArray]
                    refine wpAnyH_done (by kernel_rfl) ?_ _
                    clear hHeld hHeldf hS0
                    go_wp2_with fail
                    go_roundw
                    case rel =>
                      refine ⟨k + 1, by omega, by go_num, ?_, HB7.out⟩
                      rw [HG.out, bc_app, List.length_append, Hxl.out, HNW.out.1]
                      exact HR7.out
                    case measure => simp [intOf]; omega
              · have h5z : ((kd : Int) == 5) = false := by rw [beq_eq_false_iff_ne]; omega
                have HG : Hid (bt true n f P (k + 1) = B0 ++ bl.take (0) ++ sl p a m) := by
                  show _ = _
                  rw [Hbs.out, show gp true n f P k = 0 from by rw [Hgp.out]; rw [if_neg (fun h => h5 h.2.2.2)]]
                go_wp2_with fail
                go_loopw [13, 16] (fun qv jv wr => ∃ j : Nat, j ≤ 0 ∧ jv = .int .i64 (j : Nat) ∧ wr.ownsRow w3.heap.size 5 1 qv (B0 ++ bl.take j).length (bc (B0 ++ bl.take j)) ∧ Below w3.heap.size w3 wr) (fun _ jv _ => (0) - (intOf jv).toNat)
                case atStart => exact ⟨0, Nat.zero_le _, rfl, by rw [List.take_zero, List.append_nil]; exact Hown.out, Hbe.out⟩
                case round =>
                  obtain ⟨j, hj, rfl, hown, hbe⟩ := hrel
                  have hszr := hbe.size
                  have hblj : (B0 ++ bl.take j).length ≤ 6010 := by
                    rw [List.length_append, List.length_take]
                    have : bl.length = 4 := rfl
                    omega
                  by_cases hjl : j < 0
                  · exact absurd hjl (Nat.not_lt_zero _)
                  · have hje : j = 0 := by omega
                    have hlj : ¬ ((j : Int) < 0) := by omega
                    rw [hje] at hown hblj
                    obtain ⟨X, hX⟩ : ∃ X, B0 ++ bl.take (0) = X := ⟨_, rfl⟩
                    rw [hX] at hown hblj HG
                    obtain ⟨xl, hxl⟩ : ∃ xl, X.length = xl := ⟨_, rfl⟩
                    have Hxl := hidden hxl
                    rw [hxl] at hown hblj
                    have Hown2 := hidden hown
                    have Hbe2 := hidden hbe
                    have Hm1 := hidden hm1
                    clear hX hxl hown hbe hje hj hm1
                    go_wp2_with fail
                    refine wp_region_held_drew (S := SF tg k kd a m b (off + a) (vc - a) (sl p a m)) (by kernel_rfl) (HS.out _ (PlatenLayout.below_drew Hbe2.out)) (fun hHeld => ?_)
                    have hS0 : SF tg k kd a m b (off + a) (vc - a) (sl p a m) wr.drew := HS.out _ (PlatenLayout.below_drew Hbe2.out)
                    refine take_dst 0 (some 96) rfl rfl (by kernel_rfl) (by kernel_rfl) (by kernel_rfl) (fun _ _ _ h => h) (v := ?_) (Or.inl ⟨by rfl, ?_⟩) (by assumption) ?_
                    rotate_left
                    · (intro w hSw; obtain ⟨⟨s0, s1, s2⟩, sr⟩ := hSw; go_simp; try with_reducible rfl)
                    simp only [Act.put, List.setIfInBounds_toArray, List.set_cons_zero, List.set_cons_succ]
                    refine take_dst 1 (some 97) rfl rfl (by kernel_rfl) (by kernel_rfl) (by kernel_rfl) (fun _ _ _ h => h) (v := ?_) (Or.inl ⟨by rfl, ?_⟩) (by assumption) ?_
                    rotate_left
                    · (intro w hSw; obtain ⟨⟨s0, s1, s2⟩, sr⟩ := hSw; go_simp; try with_reducible rfl)
                    simp only [Act.put, List.setIfInBounds_toArray, List.set_cons_zero, List.set_cons_succ]
                    refine take_dst 2 (some 98) rfl rfl (by kernel_rfl) (by kernel_rfl) (by kernel_rfl) (fun _ _ _ h => h) (v := ?_) (Or.inl ⟨by rfl, ?_⟩) (by assumption) ?_
                    rotate_left
                    · (intro w hSw; obtain ⟨⟨s0, s1, s2⟩, sr⟩ := hSw; go_simp; try with_reducible rfl)
                    simp only [Act.put, List.setIfInBounds_toArray, List.set_cons_zero, List.set_cons_succ]
                    refine take_dst 3 (some 99) rfl rfl (by kernel_rfl) (by kernel_rfl) (by kernel_rfl) (fun _ _ _ h => h) (v := ?_) (Or.inl ⟨by rfl, ?_⟩) (by assumption) ?_
                    rotate_left
                    · (intro w hSw; obtain ⟨⟨s0, s1, s2⟩, sr⟩ := hSw; go_simp; try with_reducible rfl)
                    simp only [Act.put, List.setIfInBounds_toArray, List.set_cons_zero, List.set_cons_succ]
                    refine take_dst 4 (some 100) rfl rfl (by kernel_rfl) (by kernel_rfl) (by kernel_rfl) (fun _ _ _ h => h) (v := ?_) (Or.inl ⟨by rfl, ?_⟩) (by assumption) ?_
                    rotate_left
                    · (intro w hSw; obtain ⟨⟨s0, s1, s2⟩, sr⟩ := hSw; go_simp; try with_reducible rfl)
                    simp only [Act.put, List.setIfInBounds_toArray, List.set_cons_zero, List.set_cons_succ]
                    refine take_dst 5 (some 101) rfl rfl (by kernel_rfl) (by kernel_rfl) (by kernel_rfl) (fun _ _ _ h => h) (v := ?_) (Or.inl ⟨by rfl, ?_⟩) (by assumption) ?_
                    rotate_left
                    · (intro w hSw; obtain ⟨⟨s0, s1, s2⟩, sr⟩ := hSw; go_simp; try with_reducible rfl)
                    simp only [Act.put, List.setIfInBounds_toArray, List.set_cons_zero, List.set_cons_succ]
                    refine take_dst 6 (some 102) rfl rfl (by kernel_rfl) (by kernel_rfl) (by kernel_rfl) (fun _ _ _ h => h) (v := ?_) (Or.inl ⟨by rfl, ?_⟩) (by assumption) ?_
                    rotate_left
                    · (intro w hSw; obtain ⟨⟨s0, s1, s2⟩, sr⟩ := hSw; go_simp; try with_reducible rfl)
                    simp only [Act.put, List.setIfInBounds_toArray, List.set_cons_zero, List.set_cons_succ]
                    refine take_dst 7 (some 103) rfl rfl (by kernel_rfl) (by kernel_rfl) (by kernel_rfl) (fun _ _ _ h => h) (v := ?_) (Or.inl ⟨by rfl, ?_⟩) (by assumption) ?_
                    rotate_left
                    · (intro w hSw; obtain ⟨⟨s0, s1, s2⟩, sr⟩ := hSw; go_simp; try with_reducible rfl)
                    simp only [Act.put, List.setIfInBounds_toArray, List.set_cons_zero, List.set_cons_succ]
                    refine take_dst 8 (some 104) rfl rfl (by kernel_rfl) (by kernel_rfl) (by kernel_rfl) (fun _ _ _ h => h) (v := ?_) (Or.inl ⟨by rfl, ?_⟩) (by assumption) ?_
                    rotate_left
                    · (intro w hSw; obtain ⟨⟨s0, s1, s2⟩, sr⟩ := hSw; go_simp; try with_reducible rfl)
                    simp only [Act.put, List.setIfInBounds_toArray, List.set_cons_zero, List.set_cons_succ]
                    refine take_dst 9 (some 105) rfl rfl (by kernel_rfl) (by kernel_rfl) (by kernel_rfl) (fun _ _ _ h => h) (v := ?_) (Or.inl ⟨by rfl, ?_⟩) (by assumption) ?_
                    rotate_left
                    · (intro w hSw; obtain ⟨⟨s0, s1, s2⟩, sr⟩ := hSw; go_simp; try with_reducible rfl)
                    simp only [Act.put, List.setIfInBounds_toArray, List.set_cons_zero, List.set_cons_succ]
                    refine take_dst 10 (some 106) rfl rfl (by kernel_rfl) (by kernel_rfl) (by kernel_rfl) (fun _ _ _ h => h) (v := ?_) (Or.inl ⟨by rfl, ?_⟩) (by assumption) ?_
                    rotate_left
                    · (intro w hSw; obtain ⟨⟨s0, s1, s2⟩, sr⟩ := hSw; go_simp; try with_reducible rfl)
                    simp only [Act.put, List.setIfInBounds_toArray, List.set_cons_zero, List.set_cons_succ]
                    refine take_dst 11 (some 107) rfl rfl (by kernel_rfl) (by kernel_rfl) (by kernel_rfl) (fun _ _ _ h => h) (v := ?_) (Or.inl ⟨by rfl, ?_⟩) (by assumption) ?_
                    rotate_left
                    · (intro w hSw; obtain ⟨⟨s0, s1, s2⟩, sr⟩ := hSw; go_simp; try with_reducible rfl)
                    simp only [Act.put, List.setIfInBounds_toArray, List.set_cons_zero, List.set_cons_succ]
                    refine take_dst 12 (some 108) rfl rfl (by kernel_rfl) (by kernel_rfl) (by kernel_rfl) (fun _ _ _ h => h) (v := ?_) (Or.inl ⟨by rfl, ?_⟩) (by assumption) ?_
                    rotate_left
                    · (intro w hSw; obtain ⟨⟨s0, s1, s2⟩, sr⟩ := hSw; go_simp; try with_reducible rfl)
                    simp only [Act.put, List.setIfInBounds_toArray, List.set_cons_zero, List.set_cons_succ]
                    refine take_dst 13 (some 109) rfl rfl (by kernel_rfl) (by kernel_rfl) (by kernel_rfl) (fun _ _ _ h => h) (v := ?_) (Or.inl ⟨by rfl, ?_⟩) (by assumption) ?_
                    rotate_left
                    · (intro w hSw; obtain ⟨⟨s0, s1, s2⟩, sr⟩ := hSw; go_simp; try with_reducible rfl)
                    simp only [Act.put, List.setIfInBounds_toArray, List.set_cons_zero, List.set_cons_succ]
                    refine take_dst 14 (some 110) rfl rfl (by kernel_rfl) (by kernel_rfl) (by kernel_rfl) (fun _ _ _ h => h) (v := ?_) (Or.inl ⟨by rfl, ?_⟩) (by assumption) ?_
                    rotate_left
                    · (intro w hSw; obtain ⟨⟨s0, s1, s2⟩, sr⟩ := hSw; go_simp; try with_reducible rfl)
                    simp only [Act.put, List.setIfInBounds_toArray, List.set_cons_zero, List.set_cons_succ]
                    refine take_dst 15 (some 111) rfl rfl (by kernel_rfl) (by kernel_rfl) (by kernel_rfl) (fun _ _ _ h => h) (v := ?_) (Or.inl ⟨by rfl, ?_⟩) (by assumption) ?_
                    rotate_left
                    · (intro w hSw; obtain ⟨⟨s0, s1, s2⟩, sr⟩ := hSw; go_simp; try with_reducible rfl)
                    simp only [Act.put, List.setIfInBounds_toArray, List.set_cons_zero, List.set_cons_succ]
                    refine take_dst 16 (some 112) rfl rfl (by kernel_rfl) (by kernel_rfl) (by kernel_rfl) (fun _ _ _ h => h) (v := ?_) (Or.inl ⟨by rfl, ?_⟩) (by assumption) ?_
                    rotate_left
                    · (intro w hSw; obtain ⟨⟨s0, s1, s2⟩, sr⟩ := hSw; go_simp; try with_reducible rfl)
                    simp only [Act.put, List.setIfInBounds_toArray, List.set_cons_zero, List.set_cons_succ]
                    refine take_dst 17 (some 113) rfl rfl (by kernel_rfl) (by kernel_rfl) (by kernel_rfl) (fun _ _ _ h => h) (v := ?_) (Or.inl ⟨by rfl, ?_⟩) (by assumption) ?_
                    rotate_left
                    · (intro w hSw; obtain ⟨⟨s0, s1, s2⟩, sr⟩ := hSw; go_simp; try with_reducible rfl)
                    simp only [Act.put, List.setIfInBounds_toArray, List.set_cons_zero, List.set_cons_succ]
                    refine take_dst 18 (some 114) rfl rfl (by kernel_rfl) (by kernel_rfl) (by kernel_rfl) (fun _ _ _ h => h) (v := ?_) (Or.inl ⟨by rfl, ?_⟩) (by assumption) ?_
                    rotate_left
                    · (intro w hSw; obtain ⟨⟨s0, s1, s2⟩, sr⟩ := hSw; go_simp; try with_reducible rfl)
                    simp only [Act.put, List.setIfInBounds_toArray, List.set_cons_zero, List.set_cons_succ]
                    have o2 : wr.drew.ownsRow w3.heap.size 5 1 u13 xl (bc X) := PlatenLayout.row_grown Hown2.out (PlatenLayout.grown_d _) (by simp)
                    have HO2 := hidden o2
                    have HNW := hidden (row_news hS0.2 Hm1.out)
                    have HZ2 : Hid (w3.heap.size ≤ wr.drew.heap.size) := hszr
                    clear o2
                    refine wpAnyH_ready (rs := [19]) (by kernel_rfl) (by simp) ?_
                    refine AllReadyH.cons rfl (fun K hK => ?_) AllReadyH.nil
                    apply PlatenLayout.step_append_wh (s := .tmp 96) (x := .tmp 114) (t := 22) (base := w3.heap.size) (e := 5) (i := i0) (z := .int .u8 0) (size := 1) (bytes := 1) (v := u13) (n := xl) (xs := bc X) (ad := ⟨b, off + a, none⟩) (m := m) (c := vc - a) (news := bc (sl p a m))
                    case hgd => rfl
                    case hop => rfl
                    case ht => exact Try.underlying22
                    case hi => exact hi
                    case hz => exact hz0
                    case hsize => exact hz1
                    case hby => exact hz2
                    case hzs => rfl
                    case hsz => decide
                    case hs => simp [Act.eval]
                    case hown => exact HO2.out
                    case hx => simp [Act.eval]
                    case hl => rw [bc_len, HNW.out.1]; omega
                    case hnews => exact HNW.out.2
                    case h1 => exact bc_one _
                    case h63 => unfold maxLen; omega
                    case hbytes => omega
                    case hbase => exact HZ2.out
                    case hm => have := Hm1.out; omega
                    intro v' w7 hr7 hg7 _
                    have b7 : Below w3.heap.size w3 w7 := (PlatenLayout.below_drew Hbe2.out).grown hg7.out HZ2.out (fun j hj => (HO2.out.lt j hj).1)
                    refine hK.out _ _ (HS.out _ b7) (fun hHeldf => ?_)
                    have HB7 := hidden b7
                    have HR7 := hidden hr7.out
                    clear hK K hr7 hg7 b7
                    refine take_dst 20 (some 13) rfl rfl (by kernel_rfl) (by kernel_rfl) (by kernel_rfl) (fun _ _ _ h => h) (v := ?_) (Or.inl ⟨by rfl, ?_⟩) (by assumption) ?_
                    rotate_left
                    · (intro w hSw; go_simp; try with_reducible rfl)
                    simp only [Act.put, List.setIfInBounds_toArray]
                    refine wpAnyH_done (by kernel_rfl) ?_ _
                    clear hHeld hHeldf hS0
                    go_wp2_with fail
                    go_roundw
                    case rel =>
                      refine ⟨k + 1, by omega, by go_num, ?_, HB7.out⟩
                      rw [HG.out, bc_app, List.length_append, Hxl.out, HNW.out.1]
                      exact HR7.out
                    case measure => simp [intOf]; omega
            · have hyz : ((y : Int) == 0) = false := by rw [beq_eq_false_iff_ne]; omega
              have HG : Hid (bt true n f P (k + 1) = B0 ++ bl.take (y) ++ sl p a m) := by
                show _ = _
                rw [Hbs.out, show gp true n f P k = y from by rw [Hgp.out]; rw [if_neg (fun h => by omega)]]
              go_wp2_with fail
              go_loopw [13, 16] (fun qv jv wr => ∃ j : Nat, j ≤ y ∧ jv = .int .i64 (j : Nat) ∧ wr.ownsRow w3.heap.size 5 1 qv (B0 ++ bl.take j).length (bc (B0 ++ bl.take j)) ∧ Below w3.heap.size w3 wr) (fun _ jv _ => (y) - (intOf jv).toNat)
              case atStart => exact ⟨0, Nat.zero_le _, rfl, by rw [List.take_zero, List.append_nil]; exact Hown.out, Hbe.out⟩
              case round =>
                obtain ⟨j, hj, rfl, hown, hbe⟩ := hrel
                have hszr := hbe.size
                have hblj : (B0 ++ bl.take j).length ≤ 6010 := by
                  rw [List.length_append, List.length_take]
                  have : bl.length = 4 := rfl
                  omega
                by_cases hjl : j < y
                · have hlj : (j : Int) < (y : Int) := by omega
                  have hj4 : j < 4 := by omega
                  have hj4i : (j : Int) < 4 := by omega
                  have hsucc := bl_succ hj4
                  have hv : ∀ hj, (({ data := #[32, 10, 9, 13] } : ByteArray)[j]'hj).toNat = bl.getD j 0 := fun hj => str_at bl (by decide) j hj
                  obtain ⟨D, hD⟩ : ∃ D, bl.getD j 0 = D := ⟨_, rfl⟩
                  rw [hD] at hsucc hv
                  have HSu : Hid (B0 ++ bl.take (j + 1) = (B0 ++ bl.take j) ++ [D]) := by show _ = _; rw [hsucc, List.append_assoc]
                  obtain ⟨X, hX⟩ : ∃ X, B0 ++ bl.take j = X := ⟨_, rfl⟩
                  rw [hX] at HSu hown hblj
                  obtain ⟨xl, hxl⟩ : ∃ xl, X.length = xl := ⟨_, rfl⟩
                  have Hxl := hidden hxl
                  rw [hxl] at hown hblj
                  have Hown2 := hidden hown
                  have Hbe2 := hidden hbe
                  have hnew : ∀ j u, ([Value.int .u8 (D : Nat)] : List Value)[j]? = some u → (wr.alloc (.cells #[.int .u8 (D : Nat)] 5)).cell? ((⟨wr.heap.size, 0, none⟩ : Addr).add j) = some u := PlatenLayout.cells_new wr 5 [.int .u8 (D : Nat)]
                  have Hnew := hidden hnew
                  have Hoa := hidden (PlatenLayout.row_grown hown (PlatenLayout.grownBy_alloc wr (.cells #[.int .u8 (D : Nat)] 5)) (by simp))
                  have hza : w3.heap.size ≤ (wr.alloc (.cells #[.int .u8 (D : Nat)] 5)).heap.size := by simp; omega
                  have Hza := hidden hza
                  clear hX hxl hD hsucc hown hbe hnew hza z0 z1 z2 hca hwam htn h0am hvc hle hsb
                  go_wp2_with (at_builtin; refine wpList_append_own _ rfl (.tmp 91) (.tmp 94) 22 rfl w3.heap.size 5 i0 (.int .u8 0) 1 1 Try.underlying22 hi hz0 hz1 hz2 rfl (by decide) _ xl (bc X) rfl Hoa.out ⟨wr.heap.size, 0, none⟩ 1 1 [.int .u8 (D : Nat)] rfl rfl Hnew.out (by intro u hu; simp at hu; subst hu; rfl) (by unfold maxLen; omega) (by omega) Hza.out ?_)
                  intro v' w' ho hgr _
                  have HO := hidden ho
                  have HB9 := hidden ((Hbe2.out.alloc hszr (.cells #[.int .u8 (D : Nat)] 5)).grown hgr Hza.out (fun j hj => (Hoa.out.lt j hj).1))
                  clear ho hgr
                  go_wp2_with fail
                  go_roundw
                  case rel =>
                    refine ⟨j + 1, by omega, by go_num, ?_, HB9.out⟩
                    rw [HSu.out, bc_app, List.length_append, Hxl.out]
                    exact HO.out
                  case measure => simp [intOf]; omega
                · have hje : j = y := by omega
                  have hlj : ¬ ((j : Int) < (y : Int)) := by omega
                  rw [hje] at hown hblj
                  obtain ⟨X, hX⟩ : ∃ X, B0 ++ bl.take (y) = X := ⟨_, rfl⟩
                  rw [hX] at hown hblj HG
                  obtain ⟨xl, hxl⟩ : ∃ xl, X.length = xl := ⟨_, rfl⟩
                  have Hxl := hidden hxl
                  rw [hxl] at hown hblj
                  have Hown2 := hidden hown
                  have Hbe2 := hidden hbe
                  have Hm1 := hidden hm1
                  clear hX hxl hown hbe hje hj hm1
                  go_wp2_with fail
                  refine wp_region_held_drew (S := SF tg k kd a m b (off + a) (vc - a) (sl p a m)) (by kernel_rfl) (HS.out _ (PlatenLayout.below_drew Hbe2.out)) (fun hHeld => ?_)
                  have hS0 : SF tg k kd a m b (off + a) (vc - a) (sl p a m) wr.drew := HS.out _ (PlatenLayout.below_drew Hbe2.out)
                  refine take_dst 0 (some 96) rfl rfl (by kernel_rfl) (by kernel_rfl) (by kernel_rfl) (fun _ _ _ h => h) (v := ?_) (Or.inl ⟨by rfl, ?_⟩) (by assumption) ?_
                  rotate_left
                  · (intro w hSw; obtain ⟨⟨s0, s1, s2⟩, sr⟩ := hSw; go_simp; try with_reducible rfl)
                  simp only [Act.put, List.setIfInBounds_toArray, List.set_cons_zero, List.set_cons_succ]
                  refine take_dst 1 (some 97) rfl rfl (by kernel_rfl) (by kernel_rfl) (by kernel_rfl) (fun _ _ _ h => h) (v := ?_) (Or.inl ⟨by rfl, ?_⟩) (by assumption) ?_
                  rotate_left
                  · (intro w hSw; obtain ⟨⟨s0, s1, s2⟩, sr⟩ := hSw; go_simp; try with_reducible rfl)
                  simp only [Act.put, List.setIfInBounds_toArray, List.set_cons_zero, List.set_cons_succ]
                  refine take_dst 2 (some 98) rfl rfl (by kernel_rfl) (by kernel_rfl) (by kernel_rfl) (fun _ _ _ h => h) (v := ?_) (Or.inl ⟨by rfl, ?_⟩) (by assumption) ?_
                  rotate_left
                  · (intro w hSw; obtain ⟨⟨s0, s1, s2⟩, sr⟩ := hSw; go_simp; try with_reducible rfl)
                  simp only [Act.put, List.setIfInBounds_toArray, List.set_cons_zero, List.set_cons_succ]
                  refine take_dst 3 (some 99) rfl rfl (by kernel_rfl) (by kernel_rfl) (by kernel_rfl) (fun _ _ _ h => h) (v := ?_) (Or.inl ⟨by rfl, ?_⟩) (by assumption) ?_
                  rotate_left
                  · (intro w hSw; obtain ⟨⟨s0, s1, s2⟩, sr⟩ := hSw; go_simp; try with_reducible rfl)
                  simp only [Act.put, List.setIfInBounds_toArray, List.set_cons_zero, List.set_cons_succ]
                  refine take_dst 4 (some 100) rfl rfl (by kernel_rfl) (by kernel_rfl) (by kernel_rfl) (fun _ _ _ h => h) (v := ?_) (Or.inl ⟨by rfl, ?_⟩) (by assumption) ?_
                  rotate_left
                  · (intro w hSw; obtain ⟨⟨s0, s1, s2⟩, sr⟩ := hSw; go_simp; try with_reducible rfl)
                  simp only [Act.put, List.setIfInBounds_toArray, List.set_cons_zero, List.set_cons_succ]
                  refine take_dst 5 (some 101) rfl rfl (by kernel_rfl) (by kernel_rfl) (by kernel_rfl) (fun _ _ _ h => h) (v := ?_) (Or.inl ⟨by rfl, ?_⟩) (by assumption) ?_
                  rotate_left
                  · (intro w hSw; obtain ⟨⟨s0, s1, s2⟩, sr⟩ := hSw; go_simp; try with_reducible rfl)
                  simp only [Act.put, List.setIfInBounds_toArray, List.set_cons_zero, List.set_cons_succ]
                  refine take_dst 6 (some 102) rfl rfl (by kernel_rfl) (by kernel_rfl) (by kernel_rfl) (fun _ _ _ h => h) (v := ?_) (Or.inl ⟨by rfl, ?_⟩) (by assumption) ?_
                  rotate_left
                  · (intro w hSw; obtain ⟨⟨s0, s1, s2⟩, sr⟩ := hSw; go_simp; try with_reducible rfl)
                  simp only [Act.put, List.setIfInBounds_toArray, List.set_cons_zero, List.set_cons_succ]
                  refine take_dst 7 (some 103) rfl rfl (by kernel_rfl) (by kernel_rfl) (by kernel_rfl) (fun _ _ _ h => h) (v := ?_) (Or.inl ⟨by rfl, ?_⟩) (by assumption) ?_
                  rotate_left
                  · (intro w hSw; obtain ⟨⟨s0, s1, s2⟩, sr⟩ := hSw; go_simp; try with_reducible rfl)
                  simp only [Act.put, List.setIfInBounds_toArray, List.set_cons_zero, List.set_cons_succ]
                  refine take_dst 8 (some 104) rfl rfl (by kernel_rfl) (by kernel_rfl) (by kernel_rfl) (fun _ _ _ h => h) (v := ?_) (Or.inl ⟨by rfl, ?_⟩) (by assumption) ?_
                  rotate_left
                  · (intro w hSw; obtain ⟨⟨s0, s1, s2⟩, sr⟩ := hSw; go_simp; try with_reducible rfl)
                  simp only [Act.put, List.setIfInBounds_toArray, List.set_cons_zero, List.set_cons_succ]
                  refine take_dst 9 (some 105) rfl rfl (by kernel_rfl) (by kernel_rfl) (by kernel_rfl) (fun _ _ _ h => h) (v := ?_) (Or.inl ⟨by rfl, ?_⟩) (by assumption) ?_
                  rotate_left
                  · (intro w hSw; obtain ⟨⟨s0, s1, s2⟩, sr⟩ := hSw; go_simp; try with_reducible rfl)
                  simp only [Act.put, List.setIfInBounds_toArray, List.set_cons_zero, List.set_cons_succ]
                  refine take_dst 10 (some 106) rfl rfl (by kernel_rfl) (by kernel_rfl) (by kernel_rfl) (fun _ _ _ h => h) (v := ?_) (Or.inl ⟨by rfl, ?_⟩) (by assumption) ?_
                  rotate_left
                  · (intro w hSw; obtain ⟨⟨s0, s1, s2⟩, sr⟩ := hSw; go_simp; try with_reducible rfl)
                  simp only [Act.put, List.setIfInBounds_toArray, List.set_cons_zero, List.set_cons_succ]
                  refine take_dst 11 (some 107) rfl rfl (by kernel_rfl) (by kernel_rfl) (by kernel_rfl) (fun _ _ _ h => h) (v := ?_) (Or.inl ⟨by rfl, ?_⟩) (by assumption) ?_
                  rotate_left
                  · (intro w hSw; obtain ⟨⟨s0, s1, s2⟩, sr⟩ := hSw; go_simp; try with_reducible rfl)
                  simp only [Act.put, List.setIfInBounds_toArray, List.set_cons_zero, List.set_cons_succ]
                  refine take_dst 12 (some 108) rfl rfl (by kernel_rfl) (by kernel_rfl) (by kernel_rfl) (fun _ _ _ h => h) (v := ?_) (Or.inl ⟨by rfl, ?_⟩) (by assumption) ?_
                  rotate_left
                  · (intro w hSw; obtain ⟨⟨s0, s1, s2⟩, sr⟩ := hSw; go_simp; try with_reducible rfl)
                  simp only [Act.put, List.setIfInBounds_toArray, List.set_cons_zero, List.set_cons_succ]
                  refine take_dst 13 (some 109) rfl rfl (by kernel_rfl) (by kernel_rfl) (by kernel_rfl) (fun _ _ _ h => h) (v := ?_) (Or.inl ⟨by rfl, ?_⟩) (by assumption) ?_
                  rotate_left
                  · (intro w hSw; obtain ⟨⟨s0, s1, s2⟩, sr⟩ := hSw; go_simp; try with_reducible rfl)
                  simp only [Act.put, List.setIfInBounds_toArray, List.set_cons_zero, List.set_cons_succ]
                  refine take_dst 14 (some 110) rfl rfl (by kernel_rfl) (by kernel_rfl) (by kernel_rfl) (fun _ _ _ h => h) (v := ?_) (Or.inl ⟨by rfl, ?_⟩) (by assumption) ?_
                  rotate_left
                  · (intro w hSw; obtain ⟨⟨s0, s1, s2⟩, sr⟩ := hSw; go_simp; try with_reducible rfl)
                  simp only [Act.put, List.setIfInBounds_toArray, List.set_cons_zero, List.set_cons_succ]
                  refine take_dst 15 (some 111) rfl rfl (by kernel_rfl) (by kernel_rfl) (by kernel_rfl) (fun _ _ _ h => h) (v := ?_) (Or.inl ⟨by rfl, ?_⟩) (by assumption) ?_
                  rotate_left
                  · (intro w hSw; obtain ⟨⟨s0, s1, s2⟩, sr⟩ := hSw; go_simp; try with_reducible rfl)
                  simp only [Act.put, List.setIfInBounds_toArray, List.set_cons_zero, List.set_cons_succ]
                  refine take_dst 16 (some 112) rfl rfl (by kernel_rfl) (by kernel_rfl) (by kernel_rfl) (fun _ _ _ h => h) (v := ?_) (Or.inl ⟨by rfl, ?_⟩) (by assumption) ?_
                  rotate_left
                  · (intro w hSw; obtain ⟨⟨s0, s1, s2⟩, sr⟩ := hSw; go_simp; try with_reducible rfl)
                  simp only [Act.put, List.setIfInBounds_toArray, List.set_cons_zero, List.set_cons_succ]
                  refine take_dst 17 (some 113) rfl rfl (by kernel_rfl) (by kernel_rfl) (by kernel_rfl) (fun _ _ _ h => h) (v := ?_) (Or.inl ⟨by rfl, ?_⟩) (by assumption) ?_
                  rotate_left
                  · (intro w hSw; obtain ⟨⟨s0, s1, s2⟩, sr⟩ := hSw; go_simp; try with_reducible rfl)
                  simp only [Act.put, List.setIfInBounds_toArray, List.set_cons_zero, List.set_cons_succ]
                  refine take_dst 18 (some 114) rfl rfl (by kernel_rfl) (by kernel_rfl) (by kernel_rfl) (fun _ _ _ h => h) (v := ?_) (Or.inl ⟨by rfl, ?_⟩) (by assumption) ?_
                  rotate_left
                  · (intro w hSw; obtain ⟨⟨s0, s1, s2⟩, sr⟩ := hSw; go_simp; try with_reducible rfl)
                  simp only [Act.put, List.setIfInBounds_toArray, List.set_cons_zero, List.set_cons_succ]
                  have o2 : wr.drew.ownsRow w3.heap.size 5 1 u13 xl (bc X) := PlatenLayout.row_grown Hown2.out (PlatenLayout.grown_d _) (by simp)
                  have HO2 := hidden o2
                  have HNW := hidden (row_news hS0.2 Hm1.out)
                  have HZ2 : Hid (w3.heap.size ≤ wr.drew.heap.size) := hszr
                  clear o2
                  refine wpAnyH_ready (rs := [19]) (by kernel_rfl) (by simp) ?_
                  refine AllReadyH.cons rfl (fun K hK => ?_) AllReadyH.nil
                  apply PlatenLayout.step_append_wh (s := .tmp 96) (x := .tmp 114) (t := 22) (base := w3.heap.size) (e := 5) (i := i0) (z := .int .u8 0) (size := 1) (bytes := 1) (v := u13) (n := xl) (xs := bc X) (ad := ⟨b, off + a, none⟩) (m := m) (c := vc - a) (news := bc (sl p a m))
                  case hgd => rfl
                  case hop => rfl
                  case ht => exact Try.underlying22
                  case hi => exact hi
                  case hz => exact hz0
                  case hsize => exact hz1
                  case hby => exact hz2
                  case hzs => rfl
                  case hsz => decide
                  case hs => simp [Act.eval]
                  case hown => exact HO2.out
                  case hx => simp [Act.eval]
                  case hl => rw [bc_len, HNW.out.1]; omega
                  case hnews => exact HNW.out.2
                  case h1 => exact bc_one _
                  case h63 => unfold maxLen; omega
                  case hbytes => omega
                  case hbase => exact HZ2.out
                  case hm => have := Hm1.out; omega
                  intro v' w7 hr7 hg7 _
                  have b7 : Below w3.heap.size w3 w7 := (PlatenLayout.below_drew Hbe2.out).grown hg7.out HZ2.out (fun j hj => (HO2.out.lt j hj).1)
                  refine hK.out _ _ (HS.out _ b7) (fun hHeldf => ?_)
                  have HB7 := hidden b7
                  have HR7 := hidden hr7.out
                  clear hK K hr7 hg7 b7
                  refine take_dst 20 (some 13) rfl rfl (by kernel_rfl) (by kernel_rfl) (by kernel_rfl) (fun _ _ _ h => h) (v := ?_) (Or.inl ⟨by rfl, ?_⟩) (by assumption) ?_
                  rotate_left
                  · (intro w hSw; go_simp; try with_reducible rfl)
                  simp only [Act.put, List.setIfInBounds_toArray]
                  refine wpAnyH_done (by kernel_rfl) ?_ _
                  clear hHeld hHeldf hS0
                  go_wp2_with fail
                  go_roundw
                  case rel =>
                    refine ⟨k + 1, by omega, by go_num, ?_, HB7.out⟩
                    rw [HG.out, bc_app, List.length_append, Hxl.out, HNW.out.1]
                    exact HR7.out
                  case measure => simp [intOf]; omega
      · have hkmz : ¬ ((k : Int) < (n : Int)) := by omega
        have hxg : xg n f k = 0 := if_neg hkm
        rw [hxg] at Hgp
        clear hxg
        cases s with
        | false =>
          have HG : Hid (bt false n f P (k + 1) = B0 ++ bl.take (0) ++ sl p a m) := by
            show _ = _
            rw [Hbs.out, show gp false n f P k = 0 from by rw [Hgp.out]; rw [if_neg (fun h => by cases h.1)]]
          go_wp2_with fail
          go_loopw [13, 16] (fun qv jv wr => ∃ j : Nat, j ≤ 0 ∧ jv = .int .i64 (j : Nat) ∧ wr.ownsRow w3.heap.size 5 1 qv (B0 ++ bl.take j).length (bc (B0 ++ bl.take j)) ∧ Below w3.heap.size w3 wr) (fun _ jv _ => (0) - (intOf jv).toNat)
          case atStart => exact ⟨0, Nat.zero_le _, rfl, by rw [List.take_zero, List.append_nil]; exact Hown.out, Hbe.out⟩
          case round =>
            obtain ⟨j, hj, rfl, hown, hbe⟩ := hrel
            have hszr := hbe.size
            have hblj : (B0 ++ bl.take j).length ≤ 6010 := by
              rw [List.length_append, List.length_take]
              have : bl.length = 4 := rfl
              omega
            by_cases hjl : j < 0
            · exact absurd hjl (Nat.not_lt_zero _)
            · have hje : j = 0 := by omega
              have hlj : ¬ ((j : Int) < 0) := by omega
              rw [hje] at hown hblj
              obtain ⟨X, hX⟩ : ∃ X, B0 ++ bl.take (0) = X := ⟨_, rfl⟩
              rw [hX] at hown hblj HG
              obtain ⟨xl, hxl⟩ : ∃ xl, X.length = xl := ⟨_, rfl⟩
              have Hxl := hidden hxl
              rw [hxl] at hown hblj
              have Hown2 := hidden hown
              have Hbe2 := hidden hbe
              have Hm1 := hidden hm1
              clear hX hxl hown hbe hje hj hm1
              go_wp2_with fail
              refine wp_region_held_drew (S := SF tg k kd a m b (off + a) (vc - a) (sl p a m)) (by kernel_rfl) (HS.out _ (PlatenLayout.below_drew Hbe2.out)) (fun hHeld => ?_)
              have hS0 : SF tg k kd a m b (off + a) (vc - a) (sl p a m) wr.drew := HS.out _ (PlatenLayout.below_drew Hbe2.out)
              refine take_dst 0 (some 96) rfl rfl (by kernel_rfl) (by kernel_rfl) (by kernel_rfl) (fun _ _ _ h => h) (v := ?_) (Or.inl ⟨by rfl, ?_⟩) (by assumption) ?_
              rotate_left
              · (intro w hSw; obtain ⟨⟨s0, s1, s2⟩, sr⟩ := hSw; go_simp; try with_reducible rfl)
              simp only [Act.put, List.setIfInBounds_toArray, List.set_cons_zero, List.set_cons_succ]
              refine take_dst 1 (some 97) rfl rfl (by kernel_rfl) (by kernel_rfl) (by kernel_rfl) (fun _ _ _ h => h) (v := ?_) (Or.inl ⟨by rfl, ?_⟩) (by assumption) ?_
              rotate_left
              · (intro w hSw; obtain ⟨⟨s0, s1, s2⟩, sr⟩ := hSw; go_simp; try with_reducible rfl)
              simp only [Act.put, List.setIfInBounds_toArray, List.set_cons_zero, List.set_cons_succ]
              refine take_dst 2 (some 98) rfl rfl (by kernel_rfl) (by kernel_rfl) (by kernel_rfl) (fun _ _ _ h => h) (v := ?_) (Or.inl ⟨by rfl, ?_⟩) (by assumption) ?_
              rotate_left
              · (intro w hSw; obtain ⟨⟨s0, s1, s2⟩, sr⟩ := hSw; go_simp; try with_reducible rfl)
              simp only [Act.put, List.setIfInBounds_toArray, List.set_cons_zero, List.set_cons_succ]
              refine take_dst 3 (some 99) rfl rfl (by kernel_rfl) (by kernel_rfl) (by kernel_rfl) (fun _ _ _ h => h) (v := ?_) (Or.inl ⟨by rfl, ?_⟩) (by assumption) ?_
              rotate_left
              · (intro w hSw; obtain ⟨⟨s0, s1, s2⟩, sr⟩ := hSw; go_simp; try with_reducible rfl)
              simp only [Act.put, List.setIfInBounds_toArray, List.set_cons_zero, List.set_cons_succ]
              refine take_dst 4 (some 100) rfl rfl (by kernel_rfl) (by kernel_rfl) (by kernel_rfl) (fun _ _ _ h => h) (v := ?_) (Or.inl ⟨by rfl, ?_⟩) (by assumption) ?_
              rotate_left
              · (intro w hSw; obtain ⟨⟨s0, s1, s2⟩, sr⟩ := hSw; go_simp; try with_reducible rfl)
              simp only [Act.put, List.setIfInBounds_toArray, List.set_cons_zero, List.set_cons_succ]
              refine take_dst 5 (some 101) rfl rfl (by kernel_rfl) (by kernel_rfl) (by kernel_rfl) (fun _ _ _ h => h) (v := ?_) (Or.inl ⟨by rfl, ?_⟩) (by assumption) ?_
              rotate_left
              · (intro w hSw; obtain ⟨⟨s0, s1, s2⟩, sr⟩ := hSw; go_simp; try with_reducible rfl)
              simp only [Act.put, List.setIfInBounds_toArray, List.set_cons_zero, List.set_cons_succ]
              refine take_dst 6 (some 102) rfl rfl (by kernel_rfl) (by kernel_rfl) (by kernel_rfl) (fun _ _ _ h => h) (v := ?_) (Or.inl ⟨by rfl, ?_⟩) (by assumption) ?_
              rotate_left
              · (intro w hSw; obtain ⟨⟨s0, s1, s2⟩, sr⟩ := hSw; go_simp; try with_reducible rfl)
              simp only [Act.put, List.setIfInBounds_toArray, List.set_cons_zero, List.set_cons_succ]
              refine take_dst 7 (some 103) rfl rfl (by kernel_rfl) (by kernel_rfl) (by kernel_rfl) (fun _ _ _ h => h) (v := ?_) (Or.inl ⟨by rfl, ?_⟩) (by assumption) ?_
              rotate_left
              · (intro w hSw; obtain ⟨⟨s0, s1, s2⟩, sr⟩ := hSw; go_simp; try with_reducible rfl)
              simp only [Act.put, List.setIfInBounds_toArray, List.set_cons_zero, List.set_cons_succ]
              refine take_dst 8 (some 104) rfl rfl (by kernel_rfl) (by kernel_rfl) (by kernel_rfl) (fun _ _ _ h => h) (v := ?_) (Or.inl ⟨by rfl, ?_⟩) (by assumption) ?_
              rotate_left
              · (intro w hSw; obtain ⟨⟨s0, s1, s2⟩, sr⟩ := hSw; go_simp; try with_reducible rfl)
              simp only [Act.put, List.setIfInBounds_toArray, List.set_cons_zero, List.set_cons_succ]
              refine take_dst 9 (some 105) rfl rfl (by kernel_rfl) (by kernel_rfl) (by kernel_rfl) (fun _ _ _ h => h) (v := ?_) (Or.inl ⟨by rfl, ?_⟩) (by assumption) ?_
              rotate_left
              · (intro w hSw; obtain ⟨⟨s0, s1, s2⟩, sr⟩ := hSw; go_simp; try with_reducible rfl)
              simp only [Act.put, List.setIfInBounds_toArray, List.set_cons_zero, List.set_cons_succ]
              refine take_dst 10 (some 106) rfl rfl (by kernel_rfl) (by kernel_rfl) (by kernel_rfl) (fun _ _ _ h => h) (v := ?_) (Or.inl ⟨by rfl, ?_⟩) (by assumption) ?_
              rotate_left
              · (intro w hSw; obtain ⟨⟨s0, s1, s2⟩, sr⟩ := hSw; go_simp; try with_reducible rfl)
              simp only [Act.put, List.setIfInBounds_toArray, List.set_cons_zero, List.set_cons_succ]
              refine take_dst 11 (some 107) rfl rfl (by kernel_rfl) (by kernel_rfl) (by kernel_rfl) (fun _ _ _ h => h) (v := ?_) (Or.inl ⟨by rfl, ?_⟩) (by assumption) ?_
              rotate_left
              · (intro w hSw; obtain ⟨⟨s0, s1, s2⟩, sr⟩ := hSw; go_simp; try with_reducible rfl)
              simp only [Act.put, List.setIfInBounds_toArray, List.set_cons_zero, List.set_cons_succ]
              refine take_dst 12 (some 108) rfl rfl (by kernel_rfl) (by kernel_rfl) (by kernel_rfl) (fun _ _ _ h => h) (v := ?_) (Or.inl ⟨by rfl, ?_⟩) (by assumption) ?_
              rotate_left
              · (intro w hSw; obtain ⟨⟨s0, s1, s2⟩, sr⟩ := hSw; go_simp; try with_reducible rfl)
              simp only [Act.put, List.setIfInBounds_toArray, List.set_cons_zero, List.set_cons_succ]
              refine take_dst 13 (some 109) rfl rfl (by kernel_rfl) (by kernel_rfl) (by kernel_rfl) (fun _ _ _ h => h) (v := ?_) (Or.inl ⟨by rfl, ?_⟩) (by assumption) ?_
              rotate_left
              · (intro w hSw; obtain ⟨⟨s0, s1, s2⟩, sr⟩ := hSw; go_simp; try with_reducible rfl)
              simp only [Act.put, List.setIfInBounds_toArray, List.set_cons_zero, List.set_cons_succ]
              refine take_dst 14 (some 110) rfl rfl (by kernel_rfl) (by kernel_rfl) (by kernel_rfl) (fun _ _ _ h => h) (v := ?_) (Or.inl ⟨by rfl, ?_⟩) (by assumption) ?_
              rotate_left
              · (intro w hSw; obtain ⟨⟨s0, s1, s2⟩, sr⟩ := hSw; go_simp; try with_reducible rfl)
              simp only [Act.put, List.setIfInBounds_toArray, List.set_cons_zero, List.set_cons_succ]
              refine take_dst 15 (some 111) rfl rfl (by kernel_rfl) (by kernel_rfl) (by kernel_rfl) (fun _ _ _ h => h) (v := ?_) (Or.inl ⟨by rfl, ?_⟩) (by assumption) ?_
              rotate_left
              · (intro w hSw; obtain ⟨⟨s0, s1, s2⟩, sr⟩ := hSw; go_simp; try with_reducible rfl)
              simp only [Act.put, List.setIfInBounds_toArray, List.set_cons_zero, List.set_cons_succ]
              refine take_dst 16 (some 112) rfl rfl (by kernel_rfl) (by kernel_rfl) (by kernel_rfl) (fun _ _ _ h => h) (v := ?_) (Or.inl ⟨by rfl, ?_⟩) (by assumption) ?_
              rotate_left
              · (intro w hSw; obtain ⟨⟨s0, s1, s2⟩, sr⟩ := hSw; go_simp; try with_reducible rfl)
              simp only [Act.put, List.setIfInBounds_toArray, List.set_cons_zero, List.set_cons_succ]
              refine take_dst 17 (some 113) rfl rfl (by kernel_rfl) (by kernel_rfl) (by kernel_rfl) (fun _ _ _ h => h) (v := ?_) (Or.inl ⟨by rfl, ?_⟩) (by assumption) ?_
              rotate_left
              · (intro w hSw; obtain ⟨⟨s0, s1, s2⟩, sr⟩ := hSw; go_simp; try with_reducible rfl)
              simp only [Act.put, List.setIfInBounds_toArray, List.set_cons_zero, List.set_cons_succ]
              refine take_dst 18 (some 114) rfl rfl (by kernel_rfl) (by kernel_rfl) (by kernel_rfl) (fun _ _ _ h => h) (v := ?_) (Or.inl ⟨by rfl, ?_⟩) (by assumption) ?_
              rotate_left
              · (intro w hSw; obtain ⟨⟨s0, s1, s2⟩, sr⟩ := hSw; go_simp; try with_reducible rfl)
              simp only [Act.put, List.setIfInBounds_toArray, List.set_cons_zero, List.set_cons_succ]
              have o2 : wr.drew.ownsRow w3.heap.size 5 1 u13 xl (bc X) := PlatenLayout.row_grown Hown2.out (PlatenLayout.grown_d _) (by simp)
              have HO2 := hidden o2
              have HNW := hidden (row_news hS0.2 Hm1.out)
              have HZ2 : Hid (w3.heap.size ≤ wr.drew.heap.size) := hszr
              clear o2
              refine wpAnyH_ready (rs := [19]) (by kernel_rfl) (by simp) ?_
              refine AllReadyH.cons rfl (fun K hK => ?_) AllReadyH.nil
              apply PlatenLayout.step_append_wh (s := .tmp 96) (x := .tmp 114) (t := 22) (base := w3.heap.size) (e := 5) (i := i0) (z := .int .u8 0) (size := 1) (bytes := 1) (v := u13) (n := xl) (xs := bc X) (ad := ⟨b, off + a, none⟩) (m := m) (c := vc - a) (news := bc (sl p a m))
              case hgd => rfl
              case hop => rfl
              case ht => exact Try.underlying22
              case hi => exact hi
              case hz => exact hz0
              case hsize => exact hz1
              case hby => exact hz2
              case hzs => rfl
              case hsz => decide
              case hs => simp [Act.eval]
              case hown => exact HO2.out
              case hx => simp [Act.eval]
              case hl => rw [bc_len, HNW.out.1]; omega
              case hnews => exact HNW.out.2
              case h1 => exact bc_one _
              case h63 => unfold maxLen; omega
              case hbytes => omega
              case hbase => exact HZ2.out
              case hm => have := Hm1.out; omega
              intro v' w7 hr7 hg7 _
              have b7 : Below w3.heap.size w3 w7 := (PlatenLayout.below_drew Hbe2.out).grown hg7.out HZ2.out (fun j hj => (HO2.out.lt j hj).1)
              refine hK.out _ _ (HS.out _ b7) (fun hHeldf => ?_)
              have HB7 := hidden b7
              have HR7 := hidden hr7.out
              clear hK K hr7 hg7 b7
              refine take_dst 20 (some 13) rfl rfl (by kernel_rfl) (by kernel_rfl) (by kernel_rfl) (fun _ _ _ h => h) (v := ?_) (Or.inl ⟨by rfl, ?_⟩) (by assumption) ?_
              rotate_left
              · (intro w hSw; go_simp; try with_reducible rfl)
              simp only [Act.put, List.setIfInBounds_toArray]
              refine wpAnyH_done (by kernel_rfl) ?_ _
              clear hHeld hHeldf hS0
              go_wp2_with fail
              go_roundw
              case rel =>
                refine ⟨k + 1, by omega, by go_num, ?_, HB7.out⟩
                rw [HG.out, bc_app, List.length_append, Hxl.out, HNW.out.1]
                exact HR7.out
              case measure => simp [intOf]; omega
        | true =>
          rcases Nat.eq_zero_or_pos k with hk0 | hk0
          · have hkz : (0 < k) = False := eq_false (by omega)
            have HG : Hid (bt true n f P (k + 1) = B0 ++ bl.take (0) ++ sl p a m) := by
              show _ = _
              rw [Hbs.out, show gp true n f P k = 0 from by rw [Hgp.out]; rw [if_neg (fun h => by omega)]]
            clear hk0
            go_wp2_with fail
            go_loopw [13, 16] (fun qv jv wr => ∃ j : Nat, j ≤ 0 ∧ jv = .int .i64 (j : Nat) ∧ wr.ownsRow w3.heap.size 5 1 qv (B0 ++ bl.take j).length (bc (B0 ++ bl.take j)) ∧ Below w3.heap.size w3 wr) (fun _ jv _ => (0) - (intOf jv).toNat)
            case atStart => exact ⟨0, Nat.zero_le _, rfl, by rw [List.take_zero, List.append_nil]; exact Hown.out, Hbe.out⟩
            case round =>
              obtain ⟨j, hj, rfl, hown, hbe⟩ := hrel
              have hszr := hbe.size
              have hblj : (B0 ++ bl.take j).length ≤ 6010 := by
                rw [List.length_append, List.length_take]
                have : bl.length = 4 := rfl
                omega
              by_cases hjl : j < 0
              · exact absurd hjl (Nat.not_lt_zero _)
              · have hje : j = 0 := by omega
                have hlj : ¬ ((j : Int) < 0) := by omega
                rw [hje] at hown hblj
                obtain ⟨X, hX⟩ : ∃ X, B0 ++ bl.take (0) = X := ⟨_, rfl⟩
                rw [hX] at hown hblj HG
                obtain ⟨xl, hxl⟩ : ∃ xl, X.length = xl := ⟨_, rfl⟩
                have Hxl := hidden hxl
                rw [hxl] at hown hblj
                have Hown2 := hidden hown
                have Hbe2 := hidden hbe
                have Hm1 := hidden hm1
                clear hX hxl hown hbe hje hj hm1
                go_wp2_with fail
                refine wp_region_held_drew (S := SF tg k kd a m b (off + a) (vc - a) (sl p a m)) (by kernel_rfl) (HS.out _ (PlatenLayout.below_drew Hbe2.out)) (fun hHeld => ?_)
                have hS0 : SF tg k kd a m b (off + a) (vc - a) (sl p a m) wr.drew := HS.out _ (PlatenLayout.below_drew Hbe2.out)
                refine take_dst 0 (some 96) rfl rfl (by kernel_rfl) (by kernel_rfl) (by kernel_rfl) (fun _ _ _ h => h) (v := ?_) (Or.inl ⟨by rfl, ?_⟩) (by assumption) ?_
                rotate_left
                · (intro w hSw; obtain ⟨⟨s0, s1, s2⟩, sr⟩ := hSw; go_simp; try with_reducible rfl)
                simp only [Act.put, List.setIfInBounds_toArray, List.set_cons_zero, List.set_cons_succ]
                refine take_dst 1 (some 97) rfl rfl (by kernel_rfl) (by kernel_rfl) (by kernel_rfl) (fun _ _ _ h => h) (v := ?_) (Or.inl ⟨by rfl, ?_⟩) (by assumption) ?_
                rotate_left
                · (intro w hSw; obtain ⟨⟨s0, s1, s2⟩, sr⟩ := hSw; go_simp; try with_reducible rfl)
                simp only [Act.put, List.setIfInBounds_toArray, List.set_cons_zero, List.set_cons_succ]
                refine take_dst 2 (some 98) rfl rfl (by kernel_rfl) (by kernel_rfl) (by kernel_rfl) (fun _ _ _ h => h) (v := ?_) (Or.inl ⟨by rfl, ?_⟩) (by assumption) ?_
                rotate_left
                · (intro w hSw; obtain ⟨⟨s0, s1, s2⟩, sr⟩ := hSw; go_simp; try with_reducible rfl)
                simp only [Act.put, List.setIfInBounds_toArray, List.set_cons_zero, List.set_cons_succ]
                refine take_dst 3 (some 99) rfl rfl (by kernel_rfl) (by kernel_rfl) (by kernel_rfl) (fun _ _ _ h => h) (v := ?_) (Or.inl ⟨by rfl, ?_⟩) (by assumption) ?_
                rotate_left
                · (intro w hSw; obtain ⟨⟨s0, s1, s2⟩, sr⟩ := hSw; go_simp; try with_reducible rfl)
                simp only [Act.put, List.setIfInBounds_toArray, List.set_cons_zero, List.set_cons_succ]
                refine take_dst 4 (some 100) rfl rfl (by kernel_rfl) (by kernel_rfl) (by kernel_rfl) (fun _ _ _ h => h) (v := ?_) (Or.inl ⟨by rfl, ?_⟩) (by assumption) ?_
                rotate_left
                · (intro w hSw; obtain ⟨⟨s0, s1, s2⟩, sr⟩ := hSw; go_simp; try with_reducible rfl)
                simp only [Act.put, List.setIfInBounds_toArray, List.set_cons_zero, List.set_cons_succ]
                refine take_dst 5 (some 101) rfl rfl (by kernel_rfl) (by kernel_rfl) (by kernel_rfl) (fun _ _ _ h => h) (v := ?_) (Or.inl ⟨by rfl, ?_⟩) (by assumption) ?_
                rotate_left
                · (intro w hSw; obtain ⟨⟨s0, s1, s2⟩, sr⟩ := hSw; go_simp; try with_reducible rfl)
                simp only [Act.put, List.setIfInBounds_toArray, List.set_cons_zero, List.set_cons_succ]
                refine take_dst 6 (some 102) rfl rfl (by kernel_rfl) (by kernel_rfl) (by kernel_rfl) (fun _ _ _ h => h) (v := ?_) (Or.inl ⟨by rfl, ?_⟩) (by assumption) ?_
                rotate_left
                · (intro w hSw; obtain ⟨⟨s0, s1, s2⟩, sr⟩ := hSw; go_simp; try with_reducible rfl)
                simp only [Act.put, List.setIfInBounds_toArray, List.set_cons_zero, List.set_cons_succ]
                refine take_dst 7 (some 103) rfl rfl (by kernel_rfl) (by kernel_rfl) (by kernel_rfl) (fun _ _ _ h => h) (v := ?_) (Or.inl ⟨by rfl, ?_⟩) (by assumption) ?_
                rotate_left
                · (intro w hSw; obtain ⟨⟨s0, s1, s2⟩, sr⟩ := hSw; go_simp; try with_reducible rfl)
                simp only [Act.put, List.setIfInBounds_toArray, List.set_cons_zero, List.set_cons_succ]
                refine take_dst 8 (some 104) rfl rfl (by kernel_rfl) (by kernel_rfl) (by kernel_rfl) (fun _ _ _ h => h) (v := ?_) (Or.inl ⟨by rfl, ?_⟩) (by assumption) ?_
                rotate_left
                · (intro w hSw; obtain ⟨⟨s0, s1, s2⟩, sr⟩ := hSw; go_simp; try with_reducible rfl)
                simp only [Act.put, List.setIfInBounds_toArray, List.set_cons_zero, List.set_cons_succ]
                refine take_dst 9 (some 105) rfl rfl (by kernel_rfl) (by kernel_rfl) (by kernel_rfl) (fun _ _ _ h => h) (v := ?_) (Or.inl ⟨by rfl, ?_⟩) (by assumption) ?_
                rotate_left
                · (intro w hSw; obtain ⟨⟨s0, s1, s2⟩, sr⟩ := hSw; go_simp; try with_reducible rfl)
                simp only [Act.put, List.setIfInBounds_toArray, List.set_cons_zero, List.set_cons_succ]
                refine take_dst 10 (some 106) rfl rfl (by kernel_rfl) (by kernel_rfl) (by kernel_rfl) (fun _ _ _ h => h) (v := ?_) (Or.inl ⟨by rfl, ?_⟩) (by assumption) ?_
                rotate_left
                · (intro w hSw; obtain ⟨⟨s0, s1, s2⟩, sr⟩ := hSw; go_simp; try with_reducible rfl)
                simp only [Act.put, List.setIfInBounds_toArray, List.set_cons_zero, List.set_cons_succ]
                refine take_dst 11 (some 107) rfl rfl (by kernel_rfl) (by kernel_rfl) (by kernel_rfl) (fun _ _ _ h => h) (v := ?_) (Or.inl ⟨by rfl, ?_⟩) (by assumption) ?_
                rotate_left
                · (intro w hSw; obtain ⟨⟨s0, s1, s2⟩, sr⟩ := hSw; go_simp; try with_reducible rfl)
                simp only [Act.put, List.setIfInBounds_toArray, List.set_cons_zero, List.set_cons_succ]
                refine take_dst 12 (some 108) rfl rfl (by kernel_rfl) (by kernel_rfl) (by kernel_rfl) (fun _ _ _ h => h) (v := ?_) (Or.inl ⟨by rfl, ?_⟩) (by assumption) ?_
                rotate_left
                · (intro w hSw; obtain ⟨⟨s0, s1, s2⟩, sr⟩ := hSw; go_simp; try with_reducible rfl)
                simp only [Act.put, List.setIfInBounds_toArray, List.set_cons_zero, List.set_cons_succ]
                refine take_dst 13 (some 109) rfl rfl (by kernel_rfl) (by kernel_rfl) (by kernel_rfl) (fun _ _ _ h => h) (v := ?_) (Or.inl ⟨by rfl, ?_⟩) (by assumption) ?_
                rotate_left
                · (intro w hSw; obtain ⟨⟨s0, s1, s2⟩, sr⟩ := hSw; go_simp; try with_reducible rfl)
                simp only [Act.put, List.setIfInBounds_toArray, List.set_cons_zero, List.set_cons_succ]
                refine take_dst 14 (some 110) rfl rfl (by kernel_rfl) (by kernel_rfl) (by kernel_rfl) (fun _ _ _ h => h) (v := ?_) (Or.inl ⟨by rfl, ?_⟩) (by assumption) ?_
                rotate_left
                · (intro w hSw; obtain ⟨⟨s0, s1, s2⟩, sr⟩ := hSw; go_simp; try with_reducible rfl)
                simp only [Act.put, List.setIfInBounds_toArray, List.set_cons_zero, List.set_cons_succ]
                refine take_dst 15 (some 111) rfl rfl (by kernel_rfl) (by kernel_rfl) (by kernel_rfl) (fun _ _ _ h => h) (v := ?_) (Or.inl ⟨by rfl, ?_⟩) (by assumption) ?_
                rotate_left
                · (intro w hSw; obtain ⟨⟨s0, s1, s2⟩, sr⟩ := hSw; go_simp; try with_reducible rfl)
                simp only [Act.put, List.setIfInBounds_toArray, List.set_cons_zero, List.set_cons_succ]
                refine take_dst 16 (some 112) rfl rfl (by kernel_rfl) (by kernel_rfl) (by kernel_rfl) (fun _ _ _ h => h) (v := ?_) (Or.inl ⟨by rfl, ?_⟩) (by assumption) ?_
                rotate_left
                · (intro w hSw; obtain ⟨⟨s0, s1, s2⟩, sr⟩ := hSw; go_simp; try with_reducible rfl)
                simp only [Act.put, List.setIfInBounds_toArray, List.set_cons_zero, List.set_cons_succ]
                refine take_dst 17 (some 113) rfl rfl (by kernel_rfl) (by kernel_rfl) (by kernel_rfl) (fun _ _ _ h => h) (v := ?_) (Or.inl ⟨by rfl, ?_⟩) (by assumption) ?_
                rotate_left
                · (intro w hSw; obtain ⟨⟨s0, s1, s2⟩, sr⟩ := hSw; go_simp; try with_reducible rfl)
                simp only [Act.put, List.setIfInBounds_toArray, List.set_cons_zero, List.set_cons_succ]
                refine take_dst 18 (some 114) rfl rfl (by kernel_rfl) (by kernel_rfl) (by kernel_rfl) (fun _ _ _ h => h) (v := ?_) (Or.inl ⟨by rfl, ?_⟩) (by assumption) ?_
                rotate_left
                · (intro w hSw; obtain ⟨⟨s0, s1, s2⟩, sr⟩ := hSw; go_simp; try with_reducible rfl)
                simp only [Act.put, List.setIfInBounds_toArray, List.set_cons_zero, List.set_cons_succ]
                have o2 : wr.drew.ownsRow w3.heap.size 5 1 u13 xl (bc X) := PlatenLayout.row_grown Hown2.out (PlatenLayout.grown_d _) (by simp)
                have HO2 := hidden o2
                have HNW := hidden (row_news hS0.2 Hm1.out)
                have HZ2 : Hid (w3.heap.size ≤ wr.drew.heap.size) := hszr
                clear o2
                refine wpAnyH_ready (rs := [19]) (by kernel_rfl) (by simp) ?_
                refine AllReadyH.cons rfl (fun K hK => ?_) AllReadyH.nil
                apply PlatenLayout.step_append_wh (s := .tmp 96) (x := .tmp 114) (t := 22) (base := w3.heap.size) (e := 5) (i := i0) (z := .int .u8 0) (size := 1) (bytes := 1) (v := u13) (n := xl) (xs := bc X) (ad := ⟨b, off + a, none⟩) (m := m) (c := vc - a) (news := bc (sl p a m))
                case hgd => rfl
                case hop => rfl
                case ht => exact Try.underlying22
                case hi => exact hi
                case hz => exact hz0
                case hsize => exact hz1
                case hby => exact hz2
                case hzs => rfl
                case hsz => decide
                case hs => simp [Act.eval]
                case hown => exact HO2.out
                case hx => simp [Act.eval]
                case hl => rw [bc_len, HNW.out.1]; omega
                case hnews => exact HNW.out.2
                case h1 => exact bc_one _
                case h63 => unfold maxLen; omega
                case hbytes => omega
                case hbase => exact HZ2.out
                case hm => have := Hm1.out; omega
                intro v' w7 hr7 hg7 _
                have b7 : Below w3.heap.size w3 w7 := (PlatenLayout.below_drew Hbe2.out).grown hg7.out HZ2.out (fun j hj => (HO2.out.lt j hj).1)
                refine hK.out _ _ (HS.out _ b7) (fun hHeldf => ?_)
                have HB7 := hidden b7
                have HR7 := hidden hr7.out
                clear hK K hr7 hg7 b7
                refine take_dst 20 (some 13) rfl rfl (by kernel_rfl) (by kernel_rfl) (by kernel_rfl) (fun _ _ _ h => h) (v := ?_) (Or.inl ⟨by rfl, ?_⟩) (by assumption) ?_
                rotate_left
                · (intro w hSw; go_simp; try with_reducible rfl)
                simp only [Act.put, List.setIfInBounds_toArray]
                refine wpAnyH_done (by kernel_rfl) ?_ _
                clear hHeld hHeldf hS0
                go_wp2_with fail
                go_roundw
                case rel =>
                  refine ⟨k + 1, by omega, by go_num, ?_, HB7.out⟩
                  rw [HG.out, bc_app, List.length_append, Hxl.out, HNW.out.1]
                  exact HR7.out
                case measure => simp [intOf]; omega
          · have hkz : (k : Int) > 0 := by omega
            have hkz2 : (0 : Int) < (k : Int) := by omega
            by_cases h5 : kd = 5
            · have h5z : ((kd : Int) == 5) = true := by rw [h5]; rfl
              have HG : Hid (bt true n f P (k + 1) = B0 ++ bl.take (1) ++ sl p a m) := by
                show _ = _
                rw [Hbs.out, show gp true n f P k = 1 from by rw [Hgp.out]; rw [if_pos ⟨rfl, hk0, rfl, h5⟩]]
              go_wp2_with fail
              go_loopw [13, 16] (fun qv jv wr => ∃ j : Nat, j ≤ 1 ∧ jv = .int .i64 (j : Nat) ∧ wr.ownsRow w3.heap.size 5 1 qv (B0 ++ bl.take j).length (bc (B0 ++ bl.take j)) ∧ Below w3.heap.size w3 wr) (fun _ jv _ => (1) - (intOf jv).toNat)
              case atStart => exact ⟨0, Nat.zero_le _, rfl, by rw [List.take_zero, List.append_nil]; exact Hown.out, Hbe.out⟩
              case round =>
                obtain ⟨j, hj, rfl, hown, hbe⟩ := hrel
                have hszr := hbe.size
                have hblj : (B0 ++ bl.take j).length ≤ 6010 := by
                  rw [List.length_append, List.length_take]
                  have : bl.length = 4 := rfl
                  omega
                by_cases hjl : j < 1
                · have hlj : (j : Int) < 1 := by omega
                  have hj4 : j < 4 := by omega
                  have hj4i : (j : Int) < 4 := by omega
                  have hsucc := bl_succ hj4
                  have hv : ∀ hj, (({ data := #[32, 10, 9, 13] } : ByteArray)[j]'hj).toNat = bl.getD j 0 := fun hj => str_at bl (by decide) j hj
                  obtain ⟨D, hD⟩ : ∃ D, bl.getD j 0 = D := ⟨_, rfl⟩
                  rw [hD] at hsucc hv
                  have HSu : Hid (B0 ++ bl.take (j + 1) = (B0 ++ bl.take j) ++ [D]) := by show _ = _; rw [hsucc, List.append_assoc]
                  obtain ⟨X, hX⟩ : ∃ X, B0 ++ bl.take j = X := ⟨_, rfl⟩
                  rw [hX] at HSu hown hblj
                  obtain ⟨xl, hxl⟩ : ∃ xl, X.length = xl := ⟨_, rfl⟩
                  have Hxl := hidden hxl
                  rw [hxl] at hown hblj
                  have Hown2 := hidden hown
                  have Hbe2 := hidden hbe
                  have hnew : ∀ j u, ([Value.int .u8 (D : Nat)] : List Value)[j]? = some u → (wr.alloc (.cells #[.int .u8 (D : Nat)] 5)).cell? ((⟨wr.heap.size, 0, none⟩ : Addr).add j) = some u := PlatenLayout.cells_new wr 5 [.int .u8 (D : Nat)]
                  have Hnew := hidden hnew
                  have Hoa := hidden (PlatenLayout.row_grown hown (PlatenLayout.grownBy_alloc wr (.cells #[.int .u8 (D : Nat)] 5)) (by simp))
                  have hza : w3.heap.size ≤ (wr.alloc (.cells #[.int .u8 (D : Nat)] 5)).heap.size := by simp; omega
                  have Hza := hidden hza
                  clear hX hxl hD hsucc hown hbe hnew hza z0 z1 z2 hca hwam htn h0am hvc hle hsb
                  go_wp2_with (at_builtin; refine wpList_append_own _ rfl (.tmp 91) (.tmp 94) 22 rfl w3.heap.size 5 i0 (.int .u8 0) 1 1 Try.underlying22 hi hz0 hz1 hz2 rfl (by decide) _ xl (bc X) rfl Hoa.out ⟨wr.heap.size, 0, none⟩ 1 1 [.int .u8 (D : Nat)] rfl rfl Hnew.out (by intro u hu; simp at hu; subst hu; rfl) (by unfold maxLen; omega) (by omega) Hza.out ?_)
                  intro v' w' ho hgr _
                  have HO := hidden ho
                  have HB9 := hidden ((Hbe2.out.alloc hszr (.cells #[.int .u8 (D : Nat)] 5)).grown hgr Hza.out (fun j hj => (Hoa.out.lt j hj).1))
                  clear ho hgr
                  go_wp2_with fail
                  go_roundw
                  case rel =>
                    refine ⟨j + 1, by omega, by go_num, ?_, HB9.out⟩
                    rw [HSu.out, bc_app, List.length_append, Hxl.out]
                    exact HO.out
                  case measure => simp [intOf]; omega
                · have hje : j = 1 := by omega
                  have hlj : ¬ ((j : Int) < 1) := by omega
                  rw [hje] at hown hblj
                  obtain ⟨X, hX⟩ : ∃ X, B0 ++ bl.take (1) = X := ⟨_, rfl⟩
                  rw [hX] at hown hblj HG
                  obtain ⟨xl, hxl⟩ : ∃ xl, X.length = xl := ⟨_, rfl⟩
                  have Hxl := hidden hxl
                  rw [hxl] at hown hblj
                  have Hown2 := hidden hown
                  have Hbe2 := hidden hbe
                  have Hm1 := hidden hm1
                  clear hX hxl hown hbe hje hj hm1
                  go_wp2_with fail
                  refine wp_region_held_drew (S := SF tg k kd a m b (off + a) (vc - a) (sl p a m)) (by kernel_rfl) (HS.out _ (PlatenLayout.below_drew Hbe2.out)) (fun hHeld => ?_)
                  have hS0 : SF tg k kd a m b (off + a) (vc - a) (sl p a m) wr.drew := HS.out _ (PlatenLayout.below_drew Hbe2.out)
                  refine take_dst 0 (some 96) rfl rfl (by kernel_rfl) (by kernel_rfl) (by kernel_rfl) (fun _ _ _ h => h) (v := ?_) (Or.inl ⟨by rfl, ?_⟩) (by assumption) ?_
                  rotate_left
                  · (intro w hSw; obtain ⟨⟨s0, s1, s2⟩, sr⟩ := hSw; go_simp; try with_reducible rfl)
                  simp only [Act.put, List.setIfInBounds_toArray, List.set_cons_zero, List.set_cons_succ]
                  refine take_dst 1 (some 97) rfl rfl (by kernel_rfl) (by kernel_rfl) (by kernel_rfl) (fun _ _ _ h => h) (v := ?_) (Or.inl ⟨by rfl, ?_⟩) (by assumption) ?_
                  rotate_left
                  · (intro w hSw; obtain ⟨⟨s0, s1, s2⟩, sr⟩ := hSw; go_simp; try with_reducible rfl)
                  simp only [Act.put, List.setIfInBounds_toArray, List.set_cons_zero, List.set_cons_succ]
                  refine take_dst 2 (some 98) rfl rfl (by kernel_rfl) (by kernel_rfl) (by kernel_rfl) (fun _ _ _ h => h) (v := ?_) (Or.inl ⟨by rfl, ?_⟩) (by assumption) ?_
                  rotate_left
                  · (intro w hSw; obtain ⟨⟨s0, s1, s2⟩, sr⟩ := hSw; go_simp; try with_reducible rfl)
                  simp only [Act.put, List.setIfInBounds_toArray, List.set_cons_zero, List.set_cons_succ]
                  refine take_dst 3 (some 99) rfl rfl (by kernel_rfl) (by kernel_rfl) (by kernel_rfl) (fun _ _ _ h => h) (v := ?_) (Or.inl ⟨by rfl, ?_⟩) (by assumption) ?_
                  rotate_left
                  · (intro w hSw; obtain ⟨⟨s0, s1, s2⟩, sr⟩ := hSw; go_simp; try with_reducible rfl)
                  simp only [Act.put, List.setIfInBounds_toArray, List.set_cons_zero, List.set_cons_succ]
                  refine take_dst 4 (some 100) rfl rfl (by kernel_rfl) (by kernel_rfl) (by kernel_rfl) (fun _ _ _ h => h) (v := ?_) (Or.inl ⟨by rfl, ?_⟩) (by assumption) ?_
                  rotate_left
                  · (intro w hSw; obtain ⟨⟨s0, s1, s2⟩, sr⟩ := hSw; go_simp; try with_reducible rfl)
                  simp only [Act.put, List.setIfInBounds_toArray, List.set_cons_zero, List.set_cons_succ]
                  refine take_dst 5 (some 101) rfl rfl (by kernel_rfl) (by kernel_rfl) (by kernel_rfl) (fun _ _ _ h => h) (v := ?_) (Or.inl ⟨by rfl, ?_⟩) (by assumption) ?_
                  rotate_left
                  · (intro w hSw; obtain ⟨⟨s0, s1, s2⟩, sr⟩ := hSw; go_simp; try with_reducible rfl)
                  simp only [Act.put, List.setIfInBounds_toArray, List.set_cons_zero, List.set_cons_succ]
                  refine take_dst 6 (some 102) rfl rfl (by kernel_rfl) (by kernel_rfl) (by kernel_rfl) (fun _ _ _ h => h) (v := ?_) (Or.inl ⟨by rfl, ?_⟩) (by assumption) ?_
                  rotate_left
                  · (intro w hSw; obtain ⟨⟨s0, s1, s2⟩, sr⟩ := hSw; go_simp; try with_reducible rfl)
                  simp only [Act.put, List.setIfInBounds_toArray, List.set_cons_zero, List.set_cons_succ]
                  refine take_dst 7 (some 103) rfl rfl (by kernel_rfl) (by kernel_rfl) (by kernel_rfl) (fun _ _ _ h => h) (v := ?_) (Or.inl ⟨by rfl, ?_⟩) (by assumption) ?_
                  rotate_left
                  · (intro w hSw; obtain ⟨⟨s0, s1, s2⟩, sr⟩ := hSw; go_simp; try with_reducible rfl)
                  simp only [Act.put, List.setIfInBounds_toArray, List.set_cons_zero, List.set_cons_succ]
                  refine take_dst 8 (some 104) rfl rfl (by kernel_rfl) (by kernel_rfl) (by kernel_rfl) (fun _ _ _ h => h) (v := ?_) (Or.inl ⟨by rfl, ?_⟩) (by assumption) ?_
                  rotate_left
                  · (intro w hSw; obtain ⟨⟨s0, s1, s2⟩, sr⟩ := hSw; go_simp; try with_reducible rfl)
                  simp only [Act.put, List.setIfInBounds_toArray, List.set_cons_zero, List.set_cons_succ]
                  refine take_dst 9 (some 105) rfl rfl (by kernel_rfl) (by kernel_rfl) (by kernel_rfl) (fun _ _ _ h => h) (v := ?_) (Or.inl ⟨by rfl, ?_⟩) (by assumption) ?_
                  rotate_left
                  · (intro w hSw; obtain ⟨⟨s0, s1, s2⟩, sr⟩ := hSw; go_simp; try with_reducible rfl)
                  simp only [Act.put, List.setIfInBounds_toArray, List.set_cons_zero, List.set_cons_succ]
                  refine take_dst 10 (some 106) rfl rfl (by kernel_rfl) (by kernel_rfl) (by kernel_rfl) (fun _ _ _ h => h) (v := ?_) (Or.inl ⟨by rfl, ?_⟩) (by assumption) ?_
                  rotate_left
                  · (intro w hSw; obtain ⟨⟨s0, s1, s2⟩, sr⟩ := hSw; go_simp; try with_reducible rfl)
                  simp only [Act.put, List.setIfInBounds_toArray, List.set_cons_zero, List.set_cons_succ]
                  refine take_dst 11 (some 107) rfl rfl (by kernel_rfl) (by kernel_rfl) (by kernel_rfl) (fun _ _ _ h => h) (v := ?_) (Or.inl ⟨by rfl, ?_⟩) (by assumption) ?_
                  rotate_left
                  · (intro w hSw; obtain ⟨⟨s0, s1, s2⟩, sr⟩ := hSw; go_simp; try with_reducible rfl)
                  simp only [Act.put, List.setIfInBounds_toArray, List.set_cons_zero, List.set_cons_succ]
                  refine take_dst 12 (some 108) rfl rfl (by kernel_rfl) (by kernel_rfl) (by kernel_rfl) (fun _ _ _ h => h) (v := ?_) (Or.inl ⟨by rfl, ?_⟩) (by assumption) ?_
                  rotate_left
                  · (intro w hSw; obtain ⟨⟨s0, s1, s2⟩, sr⟩ := hSw; go_simp; try with_reducible rfl)
                  simp only [Act.put, List.setIfInBounds_toArray, List.set_cons_zero, List.set_cons_succ]
                  refine take_dst 13 (some 109) rfl rfl (by kernel_rfl) (by kernel_rfl) (by kernel_rfl) (fun _ _ _ h => h) (v := ?_) (Or.inl ⟨by rfl, ?_⟩) (by assumption) ?_
                  rotate_left
                  · (intro w hSw; obtain ⟨⟨s0, s1, s2⟩, sr⟩ := hSw; go_simp; try with_reducible rfl)
                  simp only [Act.put, List.setIfInBounds_toArray, List.set_cons_zero, List.set_cons_succ]
                  refine take_dst 14 (some 110) rfl rfl (by kernel_rfl) (by kernel_rfl) (by kernel_rfl) (fun _ _ _ h => h) (v := ?_) (Or.inl ⟨by rfl, ?_⟩) (by assumption) ?_
                  rotate_left
                  · (intro w hSw; obtain ⟨⟨s0, s1, s2⟩, sr⟩ := hSw; go_simp; try with_reducible rfl)
                  simp only [Act.put, List.setIfInBounds_toArray, List.set_cons_zero, List.set_cons_succ]
                  refine take_dst 15 (some 111) rfl rfl (by kernel_rfl) (by kernel_rfl) (by kernel_rfl) (fun _ _ _ h => h) (v := ?_) (Or.inl ⟨by rfl, ?_⟩) (by assumption) ?_
                  rotate_left
                  · (intro w hSw; obtain ⟨⟨s0, s1, s2⟩, sr⟩ := hSw; go_simp; try with_reducible rfl)
                  simp only [Act.put, List.setIfInBounds_toArray, List.set_cons_zero, List.set_cons_succ]
                  refine take_dst 16 (some 112) rfl rfl (by kernel_rfl) (by kernel_rfl) (by kernel_rfl) (fun _ _ _ h => h) (v := ?_) (Or.inl ⟨by rfl, ?_⟩) (by assumption) ?_
                  rotate_left
                  · (intro w hSw; obtain ⟨⟨s0, s1, s2⟩, sr⟩ := hSw; go_simp; try with_reducible rfl)
                  simp only [Act.put, List.setIfInBounds_toArray, List.set_cons_zero, List.set_cons_succ]
                  refine take_dst 17 (some 113) rfl rfl (by kernel_rfl) (by kernel_rfl) (by kernel_rfl) (fun _ _ _ h => h) (v := ?_) (Or.inl ⟨by rfl, ?_⟩) (by assumption) ?_
                  rotate_left
                  · (intro w hSw; obtain ⟨⟨s0, s1, s2⟩, sr⟩ := hSw; go_simp; try with_reducible rfl)
                  simp only [Act.put, List.setIfInBounds_toArray, List.set_cons_zero, List.set_cons_succ]
                  refine take_dst 18 (some 114) rfl rfl (by kernel_rfl) (by kernel_rfl) (by kernel_rfl) (fun _ _ _ h => h) (v := ?_) (Or.inl ⟨by rfl, ?_⟩) (by assumption) ?_
                  rotate_left
                  · (intro w hSw; obtain ⟨⟨s0, s1, s2⟩, sr⟩ := hSw; go_simp; try with_reducible rfl)
                  simp only [Act.put, List.setIfInBounds_toArray, List.set_cons_zero, List.set_cons_succ]
                  have o2 : wr.drew.ownsRow w3.heap.size 5 1 u13 xl (bc X) := PlatenLayout.row_grown Hown2.out (PlatenLayout.grown_d _) (by simp)
                  have HO2 := hidden o2
                  have HNW := hidden (row_news hS0.2 Hm1.out)
                  have HZ2 : Hid (w3.heap.size ≤ wr.drew.heap.size) := hszr
                  clear o2
                  refine wpAnyH_ready (rs := [19]) (by kernel_rfl) (by simp) ?_
                  refine AllReadyH.cons rfl (fun K hK => ?_) AllReadyH.nil
                  apply PlatenLayout.step_append_wh (s := .tmp 96) (x := .tmp 114) (t := 22) (base := w3.heap.size) (e := 5) (i := i0) (z := .int .u8 0) (size := 1) (bytes := 1) (v := u13) (n := xl) (xs := bc X) (ad := ⟨b, off + a, none⟩) (m := m) (c := vc - a) (news := bc (sl p a m))
                  case hgd => rfl
                  case hop => rfl
                  case ht => exact Try.underlying22
                  case hi => exact hi
                  case hz => exact hz0
                  case hsize => exact hz1
                  case hby => exact hz2
                  case hzs => rfl
                  case hsz => decide
                  case hs => simp [Act.eval]
                  case hown => exact HO2.out
                  case hx => simp [Act.eval]
                  case hl => rw [bc_len, HNW.out.1]; omega
                  case hnews => exact HNW.out.2
                  case h1 => exact bc_one _
                  case h63 => unfold maxLen; omega
                  case hbytes => omega
                  case hbase => exact HZ2.out
                  case hm => have := Hm1.out; omega
                  intro v' w7 hr7 hg7 _
                  have b7 : Below w3.heap.size w3 w7 := (PlatenLayout.below_drew Hbe2.out).grown hg7.out HZ2.out (fun j hj => (HO2.out.lt j hj).1)
                  refine hK.out _ _ (HS.out _ b7) (fun hHeldf => ?_)
                  have HB7 := hidden b7
                  have HR7 := hidden hr7.out
                  clear hK K hr7 hg7 b7
                  refine take_dst 20 (some 13) rfl rfl (by kernel_rfl) (by kernel_rfl) (by kernel_rfl) (fun _ _ _ h => h) (v := ?_) (Or.inl ⟨by rfl, ?_⟩) (by assumption) ?_
                  rotate_left
                  · (intro w hSw; go_simp; try with_reducible rfl)
                  simp only [Act.put, List.setIfInBounds_toArray]
                  refine wpAnyH_done (by kernel_rfl) ?_ _
                  clear hHeld hHeldf hS0
                  go_wp2_with fail
                  go_roundw
                  case rel =>
                    refine ⟨k + 1, by omega, by go_num, ?_, HB7.out⟩
                    rw [HG.out, bc_app, List.length_append, Hxl.out, HNW.out.1]
                    exact HR7.out
                  case measure => simp [intOf]; omega
            · have h5z : ((kd : Int) == 5) = false := by rw [beq_eq_false_iff_ne]; omega
              have HG : Hid (bt true n f P (k + 1) = B0 ++ bl.take (0) ++ sl p a m) := by
                show _ = _
                rw [Hbs.out, show gp true n f P k = 0 from by rw [Hgp.out]; rw [if_neg (fun h => h5 h.2.2.2)]]
              go_wp2_with fail
              go_loopw [13, 16] (fun qv jv wr => ∃ j : Nat, j ≤ 0 ∧ jv = .int .i64 (j : Nat) ∧ wr.ownsRow w3.heap.size 5 1 qv (B0 ++ bl.take j).length (bc (B0 ++ bl.take j)) ∧ Below w3.heap.size w3 wr) (fun _ jv _ => (0) - (intOf jv).toNat)
              case atStart => exact ⟨0, Nat.zero_le _, rfl, by rw [List.take_zero, List.append_nil]; exact Hown.out, Hbe.out⟩
              case round =>
                obtain ⟨j, hj, rfl, hown, hbe⟩ := hrel
                have hszr := hbe.size
                have hblj : (B0 ++ bl.take j).length ≤ 6010 := by
                  rw [List.length_append, List.length_take]
                  have : bl.length = 4 := rfl
                  omega
                by_cases hjl : j < 0
                · exact absurd hjl (Nat.not_lt_zero _)
                · have hje : j = 0 := by omega
                  have hlj : ¬ ((j : Int) < 0) := by omega
                  rw [hje] at hown hblj
                  obtain ⟨X, hX⟩ : ∃ X, B0 ++ bl.take (0) = X := ⟨_, rfl⟩
                  rw [hX] at hown hblj HG
                  obtain ⟨xl, hxl⟩ : ∃ xl, X.length = xl := ⟨_, rfl⟩
                  have Hxl := hidden hxl
                  rw [hxl] at hown hblj
                  have Hown2 := hidden hown
                  have Hbe2 := hidden hbe
                  have Hm1 := hidden hm1
                  clear hX hxl hown hbe hje hj hm1
                  go_wp2_with fail
                  refine wp_region_held_drew (S := SF tg k kd a m b (off + a) (vc - a) (sl p a m)) (by kernel_rfl) (HS.out _ (PlatenLayout.below_drew Hbe2.out)) (fun hHeld => ?_)
                  have hS0 : SF tg k kd a m b (off + a) (vc - a) (sl p a m) wr.drew := HS.out _ (PlatenLayout.below_drew Hbe2.out)
                  refine take_dst 0 (some 96) rfl rfl (by kernel_rfl) (by kernel_rfl) (by kernel_rfl) (fun _ _ _ h => h) (v := ?_) (Or.inl ⟨by rfl, ?_⟩) (by assumption) ?_
                  rotate_left
                  · (intro w hSw; obtain ⟨⟨s0, s1, s2⟩, sr⟩ := hSw; go_simp; try with_reducible rfl)
                  simp only [Act.put, List.setIfInBounds_toArray, List.set_cons_zero, List.set_cons_succ]
                  refine take_dst 1 (some 97) rfl rfl (by kernel_rfl) (by kernel_rfl) (by kernel_rfl) (fun _ _ _ h => h) (v := ?_) (Or.inl ⟨by rfl, ?_⟩) (by assumption) ?_
                  rotate_left
                  · (intro w hSw; obtain ⟨⟨s0, s1, s2⟩, sr⟩ := hSw; go_simp; try with_reducible rfl)
                  simp only [Act.put, List.setIfInBounds_toArray, List.set_cons_zero, List.set_cons_succ]
                  refine take_dst 2 (some 98) rfl rfl (by kernel_rfl) (by kernel_rfl) (by kernel_rfl) (fun _ _ _ h => h) (v := ?_) (Or.inl ⟨by rfl, ?_⟩) (by assumption) ?_
                  rotate_left
                  · (intro w hSw; obtain ⟨⟨s0, s1, s2⟩, sr⟩ := hSw; go_simp; try with_reducible rfl)
                  simp only [Act.put, List.setIfInBounds_toArray, List.set_cons_zero, List.set_cons_succ]
                  refine take_dst 3 (some 99) rfl rfl (by kernel_rfl) (by kernel_rfl) (by kernel_rfl) (fun _ _ _ h => h) (v := ?_) (Or.inl ⟨by rfl, ?_⟩) (by assumption) ?_
                  rotate_left
                  · (intro w hSw; obtain ⟨⟨s0, s1, s2⟩, sr⟩ := hSw; go_simp; try with_reducible rfl)
                  simp only [Act.put, List.setIfInBounds_toArray, List.set_cons_zero, List.set_cons_succ]
                  refine take_dst 4 (some 100) rfl rfl (by kernel_rfl) (by kernel_rfl) (by kernel_rfl) (fun _ _ _ h => h) (v := ?_) (Or.inl ⟨by rfl, ?_⟩) (by assumption) ?_
                  rotate_left
                  · (intro w hSw; obtain ⟨⟨s0, s1, s2⟩, sr⟩ := hSw; go_simp; try with_reducible rfl)
                  simp only [Act.put, List.setIfInBounds_toArray, List.set_cons_zero, List.set_cons_succ]
                  refine take_dst 5 (some 101) rfl rfl (by kernel_rfl) (by kernel_rfl) (by kernel_rfl) (fun _ _ _ h => h) (v := ?_) (Or.inl ⟨by rfl, ?_⟩) (by assumption) ?_
                  rotate_left
                  · (intro w hSw; obtain ⟨⟨s0, s1, s2⟩, sr⟩ := hSw; go_simp; try with_reducible rfl)
                  simp only [Act.put, List.setIfInBounds_toArray, List.set_cons_zero, List.set_cons_succ]
                  refine take_dst 6 (some 102) rfl rfl (by kernel_rfl) (by kernel_rfl) (by kernel_rfl) (fun _ _ _ h => h) (v := ?_) (Or.inl ⟨by rfl, ?_⟩) (by assumption) ?_
                  rotate_left
                  · (intro w hSw; obtain ⟨⟨s0, s1, s2⟩, sr⟩ := hSw; go_simp; try with_reducible rfl)
                  simp only [Act.put, List.setIfInBounds_toArray, List.set_cons_zero, List.set_cons_succ]
                  refine take_dst 7 (some 103) rfl rfl (by kernel_rfl) (by kernel_rfl) (by kernel_rfl) (fun _ _ _ h => h) (v := ?_) (Or.inl ⟨by rfl, ?_⟩) (by assumption) ?_
                  rotate_left
                  · (intro w hSw; obtain ⟨⟨s0, s1, s2⟩, sr⟩ := hSw; go_simp; try with_reducible rfl)
                  simp only [Act.put, List.setIfInBounds_toArray, List.set_cons_zero, List.set_cons_succ]
                  refine take_dst 8 (some 104) rfl rfl (by kernel_rfl) (by kernel_rfl) (by kernel_rfl) (fun _ _ _ h => h) (v := ?_) (Or.inl ⟨by rfl, ?_⟩) (by assumption) ?_
                  rotate_left
                  · (intro w hSw; obtain ⟨⟨s0, s1, s2⟩, sr⟩ := hSw; go_simp; try with_reducible rfl)
                  simp only [Act.put, List.setIfInBounds_toArray, List.set_cons_zero, List.set_cons_succ]
                  refine take_dst 9 (some 105) rfl rfl (by kernel_rfl) (by kernel_rfl) (by kernel_rfl) (fun _ _ _ h => h) (v := ?_) (Or.inl ⟨by rfl, ?_⟩) (by assumption) ?_
                  rotate_left
                  · (intro w hSw; obtain ⟨⟨s0, s1, s2⟩, sr⟩ := hSw; go_simp; try with_reducible rfl)
                  simp only [Act.put, List.setIfInBounds_toArray, List.set_cons_zero, List.set_cons_succ]
                  refine take_dst 10 (some 106) rfl rfl (by kernel_rfl) (by kernel_rfl) (by kernel_rfl) (fun _ _ _ h => h) (v := ?_) (Or.inl ⟨by rfl, ?_⟩) (by assumption) ?_
                  rotate_left
                  · (intro w hSw; obtain ⟨⟨s0, s1, s2⟩, sr⟩ := hSw; go_simp; try with_reducible rfl)
                  simp only [Act.put, List.setIfInBounds_toArray, List.set_cons_zero, List.set_cons_succ]
                  refine take_dst 11 (some 107) rfl rfl (by kernel_rfl) (by kernel_rfl) (by kernel_rfl) (fun _ _ _ h => h) (v := ?_) (Or.inl ⟨by rfl, ?_⟩) (by assumption) ?_
                  rotate_left
                  · (intro w hSw; obtain ⟨⟨s0, s1, s2⟩, sr⟩ := hSw; go_simp; try with_reducible rfl)
                  simp only [Act.put, List.setIfInBounds_toArray, List.set_cons_zero, List.set_cons_succ]
                  refine take_dst 12 (some 108) rfl rfl (by kernel_rfl) (by kernel_rfl) (by kernel_rfl) (fun _ _ _ h => h) (v := ?_) (Or.inl ⟨by rfl, ?_⟩) (by assumption) ?_
                  rotate_left
                  · (intro w hSw; obtain ⟨⟨s0, s1, s2⟩, sr⟩ := hSw; go_simp; try with_reducible rfl)
                  simp only [Act.put, List.setIfInBounds_toArray, List.set_cons_zero, List.set_cons_succ]
                  refine take_dst 13 (some 109) rfl rfl (by kernel_rfl) (by kernel_rfl) (by kernel_rfl) (fun _ _ _ h => h) (v := ?_) (Or.inl ⟨by rfl, ?_⟩) (by assumption) ?_
                  rotate_left
                  · (intro w hSw; obtain ⟨⟨s0, s1, s2⟩, sr⟩ := hSw; go_simp; try with_reducible rfl)
                  simp only [Act.put, List.setIfInBounds_toArray, List.set_cons_zero, List.set_cons_succ]
                  refine take_dst 14 (some 110) rfl rfl (by kernel_rfl) (by kernel_rfl) (by kernel_rfl) (fun _ _ _ h => h) (v := ?_) (Or.inl ⟨by rfl, ?_⟩) (by assumption) ?_
                  rotate_left
                  · (intro w hSw; obtain ⟨⟨s0, s1, s2⟩, sr⟩ := hSw; go_simp; try with_reducible rfl)
                  simp only [Act.put, List.setIfInBounds_toArray, List.set_cons_zero, List.set_cons_succ]
                  refine take_dst 15 (some 111) rfl rfl (by kernel_rfl) (by kernel_rfl) (by kernel_rfl) (fun _ _ _ h => h) (v := ?_) (Or.inl ⟨by rfl, ?_⟩) (by assumption) ?_
                  rotate_left
                  · (intro w hSw; obtain ⟨⟨s0, s1, s2⟩, sr⟩ := hSw; go_simp; try with_reducible rfl)
                  simp only [Act.put, List.setIfInBounds_toArray, List.set_cons_zero, List.set_cons_succ]
                  refine take_dst 16 (some 112) rfl rfl (by kernel_rfl) (by kernel_rfl) (by kernel_rfl) (fun _ _ _ h => h) (v := ?_) (Or.inl ⟨by rfl, ?_⟩) (by assumption) ?_
                  rotate_left
                  · (intro w hSw; obtain ⟨⟨s0, s1, s2⟩, sr⟩ := hSw; go_simp; try with_reducible rfl)
                  simp only [Act.put, List.setIfInBounds_toArray, List.set_cons_zero, List.set_cons_succ]
                  refine take_dst 17 (some 113) rfl rfl (by kernel_rfl) (by kernel_rfl) (by kernel_rfl) (fun _ _ _ h => h) (v := ?_) (Or.inl ⟨by rfl, ?_⟩) (by assumption) ?_
                  rotate_left
                  · (intro w hSw; obtain ⟨⟨s0, s1, s2⟩, sr⟩ := hSw; go_simp; try with_reducible rfl)
                  simp only [Act.put, List.setIfInBounds_toArray, List.set_cons_zero, List.set_cons_succ]
                  refine take_dst 18 (some 114) rfl rfl (by kernel_rfl) (by kernel_rfl) (by kernel_rfl) (fun _ _ _ h => h) (v := ?_) (Or.inl ⟨by rfl, ?_⟩) (by assumption) ?_
                  rotate_left
                  · (intro w hSw; obtain ⟨⟨s0, s1, s2⟩, sr⟩ := hSw; go_simp; try with_reducible rfl)
                  simp only [Act.put, List.setIfInBounds_toArray, List.set_cons_zero, List.set_cons_succ]
                  have o2 : wr.drew.ownsRow w3.heap.size 5 1 u13 xl (bc X) := PlatenLayout.row_grown Hown2.out (PlatenLayout.grown_d _) (by simp)
                  have HO2 := hidden o2
                  have HNW := hidden (row_news hS0.2 Hm1.out)
                  have HZ2 : Hid (w3.heap.size ≤ wr.drew.heap.size) := hszr
                  clear o2
                  refine wpAnyH_ready (rs := [19]) (by kernel_rfl) (by simp) ?_
                  refine AllReadyH.cons rfl (fun K hK => ?_) AllReadyH.nil
                  apply PlatenLayout.step_append_wh (s := .tmp 96) (x := .tmp 114) (t := 22) (base := w3.heap.size) (e := 5) (i := i0) (z := .int .u8 0) (size := 1) (bytes := 1) (v := u13) (n := xl) (xs := bc X) (ad := ⟨b, off + a, none⟩) (m := m) (c := vc - a) (news := bc (sl p a m))
                  case hgd => rfl
                  case hop => rfl
                  case ht => exact Try.underlying22
                  case hi => exact hi
                  case hz => exact hz0
                  case hsize => exact hz1
                  case hby => exact hz2
                  case hzs => rfl
                  case hsz => decide
                  case hs => simp [Act.eval]
                  case hown => exact HO2.out
                  case hx => simp [Act.eval]
                  case hl => rw [bc_len, HNW.out.1]; omega
                  case hnews => exact HNW.out.2
                  case h1 => exact bc_one _
                  case h63 => unfold maxLen; omega
                  case hbytes => omega
                  case hbase => exact HZ2.out
                  case hm => have := Hm1.out; omega
                  intro v' w7 hr7 hg7 _
                  have b7 : Below w3.heap.size w3 w7 := (PlatenLayout.below_drew Hbe2.out).grown hg7.out HZ2.out (fun j hj => (HO2.out.lt j hj).1)
                  refine hK.out _ _ (HS.out _ b7) (fun hHeldf => ?_)
                  have HB7 := hidden b7
                  have HR7 := hidden hr7.out
                  clear hK K hr7 hg7 b7
                  refine take_dst 20 (some 13) rfl rfl (by kernel_rfl) (by kernel_rfl) (by kernel_rfl) (fun _ _ _ h => h) (v := ?_) (Or.inl ⟨by rfl, ?_⟩) (by assumption) ?_
                  rotate_left
                  · (intro w hSw; go_simp; try with_reducible rfl)
                  simp only [Act.put, List.setIfInBounds_toArray]
                  refine wpAnyH_done (by kernel_rfl) ?_ _
                  clear hHeld hHeldf hS0
                  go_wp2_with fail
                  go_roundw
                  case rel =>
                    refine ⟨k + 1, by omega, by go_num, ?_, HB7.out⟩
                    rw [HG.out, bc_app, List.length_append, Hxl.out, HNW.out.1]
                    exact HR7.out
                  case measure => simp [intOf]; omega
    · have hqn : k = N := by omega
      subst hqn
      have hlz : ¬ ((k : Int) < (k : Int)) := by omega
      have cx := CF wr _ (HX.out.below hbe)
      have HQ := hidden (rowL_of hown)
      obtain ⟨qa, qc, rfl⟩ := PlatenLayout.row_slice hown
      have B4 := hidden (B3.out.trans (hbe.mono B3.out.size))
      clear hbe hown
      go_wp2_with fail
      refine cx.mono ?_
      clear cx
      rintro e w5 ⟨rfl, hb⟩
      have B5 := hidden (B4.out.trans (hb.mono B4.out.size))
      have cx := CF2 w5 _ (HQ.out.below hb)
      clear hb
      go_wp2_with fail
      refine cx.mono ?_
      clear cx
      rintro e w6 ⟨rfl, hb⟩
      have B6 := hidden (B5.out.trans (hb.mono B5.out.size))
      clear hb
      go_wp2_with fail
      go_ret
      exact ⟨rfl, B6.out⟩
theorem law (u : Value) (l : List Nd) (s : Bool) (wd : Int) (v : Value) (n : Nat) (f : Nat → Nat) (w : World) (hu : IsNd w u l) (hwd : -32768 ≤ wd ∧ wd ≤ 32767) (h : IsArg w v n f) :
    Calls Try.prog 8 #[u, .bool s, .int .i16 wd, v] w fun e w' => e = .returned (.bool true) ∧ Below w.heap.size w w' := by
  rcases Nat.lt_or_ge 40 l.length with hl | hl
  · exact long u l s wd v n f w hu hwd h hl
  rcases Nat.lt_or_ge 60 n with hn | hn
  · exact longG u l s wd v n f w hu hwd h hl hn
  · exact short u l s wd v n f w hu hwd h hl hn
set_option maxRecDepth 100000 in
theorem lifted (os : Os) (started : os.Started) (H : Type) (enc : TypeId × Value → H) :
    ReturnsInHanded {} Try.checked os 8 .any (Rows.treeBlanksSpec.pre6 enc Try.prog Try.f8 Rows.treeBlanksRow.domain false) (Rows.treeBlanksSpec.post enc Try.prog Try.f8 false true false false) := by
  refine returnsInHanded_of_change (C := Try.checked) own started (by kernel_rfl) Try.func8
    (ChangeSpec.witness6 (enc := enc) (C := Try.checked) false ⟨#[], #[.slice none 0 0, .bool false, .int .i16 0, .slice none 0 0], []⟩ 8 (by kernel_rfl) (by kernel_rfl) (by kernel_rfl) (by kernel_rfl)) ?_
  intro W base args ds gs before hval0 hW _ _
  have hval : ∀ (j : Nat) t v, Try.f8.params[j]? = some t → args[j]? = some v → Value.okWide Try.prog W .any base t v := hval0
  have hW' := hW
  obtain ⟨p, q, hA0, hV, rfl, _, _⟩ := hW
  have hA : DataW.TrodAll enc Try.prog W 0 (fun _ => true) true Try.f8.params.toList args.toList ds p := hA0
  rw [Try.params8] at hA hval
  obtain ⟨v0, vs0, d0, ds0, p0, q0, hargs, rfl, rfl, h0, r0⟩ := trodAll_cons hA
  obtain ⟨v1, vs1, d1, ds1, p1, q1, rfl, rfl, rfl, h1, r1⟩ := trodAll_cons r0
  obtain ⟨v2, vs2, d2, ds2, p2, q2, rfl, rfl, rfl, h2, r2⟩ := trodAll_cons r1
  obtain ⟨v3, vs3, d3, ds3, p3, q3, rfl, rfl, rfl, h3, r3⟩ := trodAll_cons r2
  obtain ⟨rfl, rfl, rfl⟩ := trodAll_nil r3
  obtain rfl : args = #[v0, v1, v2, v3] := by cases args; simp_all
  obtain ⟨rfl, rfl⟩ := trodVars_none hV
  have lt0 : ∀ x ∈ p0, x.block < W.heap.size := by obtain ⟨m, hm⟩ := h0; exact DataW.trod_lt m _ _ _ hm
  obtain ⟨f0, g0⟩ := open_acts (hval 0 30 v0 rfl rfl) h0
  obtain ⟨x1, rfl, rfl, rfl⟩ := open_bool Try.underlying4 (hval 1 4 v1 rfl rfl) h1
  obtain ⟨x2, rfl, rfl, rfl, w2⟩ := open_int Try.underlying38 (hval 2 38 v2 rfl rfl) h2
  have b2 : -32768 ≤ x2 ∧ x2 ≤ 32767 := by simpa [Lit.wf, IntKind.min, IntKind.max, IntKind.signed, IntKind.bits] using w2
  have lt3 : ∀ x ∈ p3, x.block < W.heap.size := by obtain ⟨m, hm⟩ := h3; exact DataW.trod_lt m _ _ _ hm
  obtain ⟨n3, f3, g3⟩ := open_bytes (hval 3 22 v3 rfl rfl) h3
  clear hA0 hval0
  simp only [List.append_nil] at hW'
  refine (law v0 f0 x1 x2 v3 n3 f3 W g0 b2 g3).mono fun e W' ⟨he, bel⟩ => ?_
  subst he
  exact ⟨_, rfl, _, _, _, [], _, [], hW', trodAll_mk1 (shut_bool Try.underlying4 _), (trodAll_cons_mk (Below.trod laidOut (by kernel_rfl) (of_decide_eq_true (by kernel_rfl)) h0 bel lt0) (trodAll_cons_mk (shut_bool Try.underlying4 _) (trodAll_cons_mk (shut_int Try.underlying38 w2) (trodAll_cons_mk (Below.trod laidOut (by kernel_rfl) (of_decide_eq_true (by kernel_rfl)) h3 bel lt3) trodAll_mk0)))), rfl, bel.frame _, fun h => by cases h⟩

theorem said : Rows.TreeBlanksSaid :=
  OpenClaim.holds_of_wide 8 Try.f8 rfl rfl rfl rfl rfl rfl rfl ⟨rfl, rfl, rfl, rfl, rfl⟩ rfl rfl rfl rfl rfl (by kernel_rfl) Try.func8 (by kernel_rfl)
    (of_decide_eq_true (by kernel_rfl)) (by unfold Func.isWrapper; first | (rw [if_pos (by decide +kernel)]; kernel_rfl) | (rw [if_neg (by decide +kernel)]; exact ⟨rfl, rfl⟩))
    (fun os started H enc _ => lifted os started H enc)
#print axioms said
end Go.Proofs.Ytfakfgmengcndaa.Blanks
