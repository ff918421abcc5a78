/- Tokens, one behind the other, with nothing but blanks between, are the whole text. -/
import Derived.Test.YtapghnmeiahgoaaTn
namespace Go.Proofs.Ytapghnmeiahgoaa.Tokens
open Go.ChangeShapes Go.WideShapes Go.ChangeAt Go.RowKit Go.Proofs.PlatenJson
set_option linter.unusedVariables false
set_option maxRecDepth 100000

def CL : List Nat := [91, 34, 97, 34, 44, 32, 123, 34, 98, 34, 32, 58, 32, 45, 49, 46, 53, 101, 51, 125, 44, 32]
theorem cells_new (X : World) (L : List Nat) (cs : Array Value) (t : TypeId) (z : Nat × Nat) (h : cs = (rowL L).toArray) : ∀ j u, (rowL L)[j]? = some u → (X.alloc (.cells cs t z)).cell? ((⟨X.heap.size, 0, none⟩ : Addr).add j) = some u := by
  intro j u hj
  have := heap_alloc_new X (.cells cs t z)
  have ea : (⟨X.heap.size, 0, none⟩ : Addr).add j = ⟨X.heap.size, j, none⟩ := by unfold Addr.add; split <;> simp_all
  rw [ea]
  unfold World.cell?
  rw [this, h]
  simpa using hj
theorem isB_cases {c : Nat} (h : isB c = true) : c = 32 ∨ c = 9 ∨ c = 10 ∨ c = 13 := by
  simp only [isB, Bool.or_eq_true, decide_eq_true_eq] at h
  omega
theorem append_nil2 {ops : Array Oper} {rest : List Oper} {o : Oper} {a : Act} {Q : Exit → Act → World → Prop} {w : World} (hgd : o.guard = none) (s x : Operand)
    (ho : o.op = .call { callee := .builtin .append, args := #[s, x], argTypes := #[22, 22] }) (b : Addr) (n : Nat) (hs : a.eval s = .slice (some b) n n) (u : Value) (hx : a.eval x = u) (hu : Hid (u = .slice none 0 0))
    (h : ∀ v, Hid (v = .slice (some b) n n) → wpList Try.prog ops Q rest (a.put o.dst v) w) : wpList Try.prog ops Q (o :: rest) a w :=
  append_nil' hgd s x ho b n hs (hx.trans hu.out) (h _ (hidden rfl))
theorem fOf_app (A B : List Nat) (j : Nat) : fOf (A ++ B) (A.length + j) = fOf B j := by
  unfold fOf
  rw [List.getD_eq_getElem?_getD, List.getD_eq_getElem?_getD, List.getElem?_append_right (by omega), Nat.add_sub_cancel_left]
theorem lq_facts (M : List Nat) (k : Nat) (hk : M.length = k) : (CL ++ M ++ [32, 93]).length = k + 24 ∧ fOf (CL ++ M ++ [32, 93]) 0 = 91 ∧ fOf (CL ++ M ++ [32, 93]) (k + 23) = 93 := by
  have hA : (CL ++ M).length = k + 22 := by rw [List.length_append, hk]; show 22 + k = k + 22; omega
  refine ⟨by rw [List.length_append, hA]; rfl, rfl, ?_⟩
  have := fOf_app (CL ++ M) [32, 93] 1
  rw [hA] at this
  exact this
theorem ans_tlen {f : Nat → Nat} (n : Nat) (hf : ∀ j, f j < 256) (hn : n ≤ 100000) {T : List Tk} {x y : Nat} (h : ans f n = (T, x, y)) : T.length ≤ 1000000 := by
  have := ans_len f n hf hn
  rw [h] at this
  exact this
set_option maxHeartbeats 4000000 in
theorem long (v : Value) (n : Nat) (f : Nat → Nat) (w : World) (h : IsArg w v n f) (hn : 120 < n) :
    Calls Try.prog 6 #[v] w fun e w' => e = .returned (.bool true) ∧ Below w.heap.size w w' := by
  obtain ⟨hf, hm, a, cap, rfl, _⟩ := h
  have hlz : (120 : Int) < (n : Int) := by omega
  clear hn
  go_enter Try.func6, Try.ntmps6
  go_wp2_with fail
  refine (lists_any w).mono ?_
  rintro e w1 ⟨rfl, hb1⟩
  have B1 := hidden hb1
  clear hb1
  go_wp2_with fail
  refine (lists_any w1).mono ?_
  rintro e w2 ⟨rfl, hb2⟩
  have B2 := hidden (B1.out.trans (hb2.mono B1.out.size))
  clear hb2
  go_wp2_with fail
  go_ret
  exact ⟨rfl, B2.out⟩
set_option maxHeartbeats 8000000 in
theorem short (v : Value) (n : Nat) (f : Nat → Nat) (w : World) (h : IsArg w v n f) (hn : n ≤ 120) :
    Calls Try.prog 6 #[v] w fun e w' => e = .returned (.bool true) ∧ Below w.heap.size w w' := by
  obtain ⟨hf, hm, hr⟩ := h
  have HR := hidden hr
  obtain ⟨a, cap, rfl, _⟩ := hr
  have hlz : ¬ ((120 : Int) < (n : Int)) := by omega
  have Hf := hidden hf
  have Hn := hidden hn
  obtain ⟨i0, hi, hz0, hz1, hz2⟩ := info_parts info5
  clear hn hf
  go_enter Try.func6, Try.ntmps6
  go_wp2_with fail
  refine (lists_any w).mono ?_
  rintro e w1 ⟨rfl, hb1⟩
  have B1 := hidden hb1
  have HR1 := hidden (HR.out.below hb1)
  clear hb1
  go_wp2_with fail
  go_loopw [3, 4] (fun p i wr => ∃ k : Nat, k ≤ n ∧ i = .int .i64 (k : Nat) ∧ (k = 0 → p = .slice none 0 0) ∧ wr.ownsRow w1.heap.size 5 1 p k (rowG (fun j => sgn (f j)) k) ∧ Below w1.heap.size w1 wr) (fun _ i _ => n - (intOf i).toNat)
  case atStart => exact ⟨0, Nat.zero_le _, rfl, fun _ => rfl, World.ownsRow_nil _ _ _ _, Below.refl _ _⟩
  case round =>
    obtain ⟨k, hk, rfl, hp0, hown, hnx⟩ := hrel
    have Hp := hidden hp0
    clear hp0
    by_cases hlt : k < n
    · have hlz2 : (k : Int) < (n : Int) := by omega
      obtain ⟨a', cap', hva, hrow⟩ := HR1.out.below hnx
      injection hva with e1 e2 e3
      subst e1 e3
      obtain ⟨b, off, rfl, hcap, hc⟩ := hrow (by omega)
      have g0 := hc k hlt
      have g1 := Hf.out k
      have Hr : Hid (rowG (fun j => sgn (f j)) (k + 1) = rowG (fun j => sgn (f j)) k ++ [.int .u8 (sgn (f k) : Nat)]) := rowG_succ _ _
      have hix : (0 : Int) ≤ ((f k : Nat) : Int) % 36 ∧ ((f k : Nat) : Int) % 36 < 36 := by omega
      have hsg : ∀ h, (({ data := #[123, 125, 91, 93, 44, 58, 34, 34, 92, 117, 101, 45, 43, 46, 48, 49, 50, 51, 52, 53, 54, 55, 56, 57, 116, 114, 117, 101, 102, 97, 108, 115, 110, 32, 9, 10] } : ByteArray)[f k % 36]'h).toNat = sgn (f k) := fun h => sg_get _ h
      have hkb : k ≤ 200 := by have := Hn.out; omega
      have Hc3 := hidden (c3_of (show k ≤ 5000 by omega))
      have hsz := hnx.size
      have Hnx := hidden hnx
      clear hc hrow e2 hnx
      generalize sgn (f k) = y at *
      generalize f k = c at *
      go_wp2_with (at_builtin; refine wpList_append_own _ rfl _ _ 22 rfl w1.heap.size 5 i0 (.int .u8 0) 1 1 Try.underlying22 hi hz0 hz1 hz2 rfl (by decide) _ _ _ rfl (hown.alloc _) ⟨wr.heap.size, 0, none⟩ 1 1 [.int .u8 (y : Nat)] rfl rfl (cell1 _ _ _) (one1 _) Hc3.out.1 Hc3.out.2 (c5_of hsz) ?_)
      intro v' w2 hown' hgrow _
      have Hb2 := hidden (below_append1 hsz hown Hnx.out hgrow)
      have Hw2 := hidden hown'
      clear hown' hgrow hown g0 g1 hix hsg
      go_wp2
      go_roundw
      case rel => exact ⟨k + 1, by omega, by go_num, fun e => by omega, by rw [Hr.out]; exact Hw2.out, Hb2.out⟩
      case measure => simp [intOf]; omega
    · obtain rfl : k = n := by omega
      have hlz2 : ¬ ((k : Int) < (k : Int)) := by omega
      have Hown := hidden hown
      have Hnx := hidden hnx
      clear hown hnx
      have hsP : Src wr u3 (listOf (fun j => sgn (f j)) k) := src_own (by rw [listOf_len]) (by rw [← rowG_eq]; exact Hown.out)
      have B3 := hidden (B1.out.trans (Hnx.out.mono B1.out.size))
      have Hk : Hid (k ≤ 120) := Hn.out
      generalize hg : (fun j => sgn (f j)) = g at *
      have Hgl : Hid (∀ j, g j < 256) := fun j => by rw [← hg]; exact sgn_lt _
      clear hg
      have hl2 : (listOf g k).length = k := listOf_len _ _
      have Hll := hidden (listOf_lt Hgl.out k)
      obtain ⟨Lq, hLq⟩ : ∃ Lq, CL ++ listOf g k ++ [32, 93] = Lq := ⟨_, rfl⟩
      obtain ⟨q1, q2, q3⟩ := lq_facts (listOf g k) k hl2
      rw [hLq] at q1 q2 q3
      have Hql := hidden q1
      have Hq0 := hidden q2
      have Hq9 := hidden q3
      clear q1 q2 q3
      have Hlt : Hid (∀ c ∈ Lq, c < 256) := fun c hc => by
        rw [← hLq] at hc
        simp only [List.mem_append] at hc
        rcases hc with (h | h) | h
        · have : ∀ c ∈ CL, c < 256 := by decide
          exact this c h
        · exact Hll.out c h
        · have : ∀ c ∈ [32, 93], c < 256 := by decide
          exact this c h
      have HLq := hidden hLq
      have kc := fun (w : World) (C : Array Value) (n c : Nat) => Lib.run_convert_bytes_const (P := Try.prog) w 22 5 C n c Try.underlying22 Try.underlying5
      have hN := cells_new wr CL #[Value.int .u8 91, Value.int .u8 34, Value.int .u8 97, Value.int .u8 34, Value.int .u8 44, Value.int .u8 32, Value.int .u8 123, Value.int .u8 34, Value.int .u8 98, Value.int .u8 34, Value.int .u8 32, Value.int .u8 58, Value.int .u8 32, Value.int .u8 45, Value.int .u8 49, Value.int .u8 46, Value.int .u8 53, Value.int .u8 101, Value.int .u8 51, Value.int .u8 125, Value.int .u8 44, Value.int .u8 32] 5 (22, 23) rfl
      have BN := hidden ((Below.refl wr.heap.size wr).alloc (Nat.le_refl _) (.cells #[Value.int .u8 91, Value.int .u8 34, Value.int .u8 97, Value.int .u8 34, Value.int .u8 44, Value.int .u8 32, Value.int .u8 123, Value.int .u8 34, Value.int .u8 98, Value.int .u8 34, Value.int .u8 32, Value.int .u8 58, Value.int .u8 32, Value.int .u8 45, Value.int .u8 49, Value.int .u8 46, Value.int .u8 53, Value.int .u8 101, Value.int .u8 51, Value.int .u8 125, Value.int .u8 44, Value.int .u8 32] 5 (22, 23)))
      clear hLq
      by_cases h0 : k = 0
      · have hp := Hp.out h0
        have hnil : listOf g k = [] := List.eq_nil_of_length_eq_zero (by omega)
        have hN2 : ∀ j u, (rowL CL)[j]? = some u → ((wr.alloc (.cells #[Value.int .u8 91, Value.int .u8 34, Value.int .u8 97, Value.int .u8 34, Value.int .u8 44, Value.int .u8 32, Value.int .u8 123, Value.int .u8 34, Value.int .u8 98, Value.int .u8 34, Value.int .u8 32, Value.int .u8 58, Value.int .u8 32, Value.int .u8 45, Value.int .u8 49, Value.int .u8 46, Value.int .u8 53, Value.int .u8 101, Value.int .u8 51, Value.int .u8 125, Value.int .u8 44, Value.int .u8 32] 5 (22, 23))).alloc (.cells #[Value.int .u8 32, Value.int .u8 93] 5)).cell? ((⟨wr.heap.size, 0, none⟩ : Addr).add j) = some u := fun j u hj => Lib.cell?_alloc_marked _ (hN j u hj)
        have hM2 := cells_new (wr.alloc (.cells #[Value.int .u8 91, Value.int .u8 34, Value.int .u8 97, Value.int .u8 34, Value.int .u8 44, Value.int .u8 32, Value.int .u8 123, Value.int .u8 34, Value.int .u8 98, Value.int .u8 34, Value.int .u8 32, Value.int .u8 58, Value.int .u8 32, Value.int .u8 45, Value.int .u8 49, Value.int .u8 46, Value.int .u8 53, Value.int .u8 101, Value.int .u8 51, Value.int .u8 125, Value.int .u8 44, Value.int .u8 32] 5 (22, 23))) [32, 93] #[Value.int .u8 32, Value.int .u8 93] 5 (0, 0) rfl
        have eX : (wr.alloc (.cells #[Value.int .u8 91, Value.int .u8 34, Value.int .u8 97, Value.int .u8 34, Value.int .u8 44, Value.int .u8 32, Value.int .u8 123, Value.int .u8 34, Value.int .u8 98, Value.int .u8 34, Value.int .u8 32, Value.int .u8 58, Value.int .u8 32, Value.int .u8 45, Value.int .u8 49, Value.int .u8 46, Value.int .u8 53, Value.int .u8 101, Value.int .u8 51, Value.int .u8 125, Value.int .u8 44, Value.int .u8 32] 5 (22, 23))).heap.size = wr.heap.size + 1 := by simp
        rw [eX] at hM2
        have B4 := hidden ((BN.out.alloc (by simp) (.cells #[Value.int .u8 32, Value.int .u8 93] 5)))
        rw [hnil, List.append_nil] at HLq
        clear hsP Hown Hp hnil h0
        go_wp2_with (at_builtin; refine append_nil2 rfl _ _ rfl ⟨wr.heap.size, 0, none⟩ 22 rfl _ rfl hp ?_)
        intro x hx
        obtain rfl := hx.out
        clear hx
        go_wp2_with (at_builtin; refine append_full rfl _ _ rfl ⟨wr.heap.size, 0, none⟩ CL [32, 93] 2 ⟨wr.heap.size + 1, 0, none⟩ rfl hN2 rfl hM2 (by decide) (by decide) (by decide) ?_)
        intro v' wz ho hgz
        have Bz0 := hidden (B3.out.trans ((B4.out.grown hgz (by simp; omega) (by simp)).mono B3.out.size))
        replace ho : wz.ownsRow (wr.heap.size + 1 + 1) 5 1 v' (CL ++ [32, 93]).length (rowL (CL ++ [32, 93])) := ho
        rw [HLq.out] at ho
        clear hgz hN hN2 hM2 kc
        have hrow := row_ofL (n := k + 24) (L := Lq) Hql.out.symm (by rw [← Hql.out]; exact ho)
        have cr := read_any _ (k + 24) _ wz (fOf_lt Hlt.out) (by have := Hk.out; omega) hrow
        have Hrow := hidden hrow
        obtain ⟨va, vc, rfl, _⟩ := hrow
        have Hg : Hid (∀ j, fOf Lq j < 256) := fOf_lt Hlt.out
        have Hat : Hid ((ans (fOf Lq) (k + 24)).2.1 ≤ k + 24) := ans_at _
        have Htv : Hid ((ans (fOf Lq) (k + 24)).2.2 = 0 → Ts (fOf Lq) (ans (fOf Lq) (k + 24)).1 (k + 24)) := fun e => ans_tv Hg.out _ e
        have Hf1 : Hid ((ans (fOf Lq) (k + 24)).2.2 = 0 → ∃ ts, (ans (fOf Lq) (k + 24)).1 = (1, 0, 1) :: ts) := fun e => ans_first (by omega) Hq0.out e
        have Hl1 : Hid ((ans (fOf Lq) (k + 24)).2.2 = 0 → ∃ l, (ans (fOf Lq) (k + 24)).1 = l ++ [(2, k + 23, 1)]) := fun e => ans_last Hg.out Hq9.out e
        have Hno : Hid ((ans (fOf Lq) (k + 24)).2.2 ≠ 0 → (ans (fOf Lq) (k + 24)).1 = []) := fun e => by
          rcases ans_cases (fOf Lq) (k + 24) with h | h | ⟨j, x, _, _, h, _⟩
          · exact absurd h.1 e
          · rw [h]
          · rw [h]
        have Hok : Hid ((ans (fOf Lq) (k + 24)).2.2 = 0 → (ans (fOf Lq) (k + 24)).2.1 = 0) := fun e => by
          rcases ans_cases (fOf Lq) (k + 24) with h | h | ⟨j, x, _, _, h, _⟩
          · exact h.2
          · rw [h] at e; cases e
          · rw [h] at e ⊢; exact absurd e (by assumption)
        have HTl : Hid ((ans (fOf Lq) (k + 24)).1.length ≤ 1000000) := ans_len _ _ Hg.out (by have := Hk.out; omega)
        generalize ans (fOf Lq) (k + 24) = o at *
        obtain ⟨T, x, y⟩ := o
        simp only at Hat HTl Htv Hf1 Hl1 Hno Hok
        clear ho
        generalize fOf Lq = g at *
        by_cases hy : y = 0
        · have hx := Hok.out hy
          subst hy hx
          obtain ⟨ht1, ht2, ht3⟩ := ts_en (Htv.out rfl)
          obtain ⟨ts, hts⟩ := Hf1.out rfl
          obtain ⟨tl, htl⟩ := Hl1.out rfl
          have Hhead : Hid ((T.getD 0 (0, 0, 0)).1 = 1 ∧ 1 ≤ T.length) := by rw [hts]; exact ⟨rfl, by simp⟩
          have Hlast : Hid ((T.getD (T.length - 1) (0, 0, 0)).1 = 2) := by
            rw [htl]; simp [Hid]
          have Ht1 := hidden ht1
          have Ht2 := hidden ht2
          have Ht3 := hidden ht3
          clear hts htl ht1 ht2 ht3 Htv Hf1 Hl1 Hno Hok Hat Hq0 Hq9 Hlt
          go_wp2_with fail
          refine cr.mono ?_
          rintro e w6 ⟨tv, rfl, ht, hb6⟩
          have B6 := hidden (Bz0.out.trans (hb6.mono Bz0.out.size))
          have Hrow6 := hidden (Hrow.out.below hb6)
          obtain ⟨aa, ac, rfl, hA⟩ := ht
          have HA := hidden hA
          clear cr hb6 hA
          obtain ⟨a', cap', hva', hrw'⟩ := Hrow6.out
          injection hva' with e1 e2 e3
          subst e1 e3
          obtain ⟨b, off, rfl, hcap', hcell'⟩ := hrw' (by omega)
          have HP := hidden hcell'
          obtain ⟨hh1, hh2⟩ := Hhead.out
          have Hh1 := hidden hh1
          obtain ⟨ga, rfl, hac, hcells⟩ := HA.out hh2
          have HC := hidden hcells
          have hn1 : k + 24 ≤ 144 := by have := Hk.out; omega
          have hn0 : 1 ≤ k + 24 := by omega
          have hTl := HTl.out
          clear HA hcells hcell' hrw' e2 Hhead hh1
          generalize k + 24 = n at *
          generalize hL : T.length = L at *
          go_wp2_with fail
          go_loopw [8, 9, 10] (fun now i _ wq => ∃ t c : Nat, t ≤ L + 1 ∧ i = .int .i64 (t : Nat) ∧ now = .int .i64 (c : Nat) ∧ Hid ((t ≤ L → c = en T t) ∧ (L < t → c = n)) ∧ w6 = wq) (fun _ i _ _ => L + 1 - (intOf i).toNat)
          case atStart => exact ⟨0, 0, by omega, rfl, rfl, hidden ⟨fun _ => rfl, fun h => by omega⟩, rfl⟩
          case round =>
            obtain ⟨t, c, ht, rfl, rfl, Hc0, rfl⟩ := hrel
            by_cases h1 : t ≤ L
            · have z1 : (t : Int) ≤ (L : Int) := by omega
              have hc := Hc0.out.1 h1
              by_cases h2 : t < L
              · have z2 : (t : Int) < (L : Int) := by omega
                have hz : t < T.length := by omega
                obtain ⟨a1, a2, a3⟩ := HC.out t h2
                obtain ⟨t1, t2, t3, t4⟩ := Ht1.out t h2
                rw [← hc] at t1 t2
                have Hen : Hid (en T (t + 1) = (T.getD t (0, 0, 0)).2.1 + (T.getD t (0, 0, 0)).2.2) := by unfold Hid en; rw [if_neg (by omega), Nat.add_sub_cancel]
                have T2 := hidden t2
                clear t2 hc Hc0 hz
                generalize (T.getD t (0, 0, 0)).1 = x at *
                generalize (T.getD t (0, 0, 0)).2.1 = y at *
                generalize (T.getD t (0, 0, 0)).2.2 = z at *
                go_wp2_with fail
                go_loopw [8] (fun now wq => ∃ m : Nat, c ≤ m ∧ m ≤ y ∧ now = .int .i64 (m : Nat) ∧ w6 = wq) (fun now _ => y - (intOf now).toNat)
                case atStart => exact ⟨c, Nat.le_refl _, t1, rfl, rfl⟩
                case round =>
                  obtain ⟨m, hm1, hm2, rfl, rfl⟩ := hrel
                  by_cases h3 : m < y
                  · have z3 : (m : Int) < (y : Int) := by omega
                    have hb := isB_cases (T2.out m hm1 h3)
                    have g0 := HP.out m (by omega)
                    generalize g m = gm at *
                    rcases hb with rfl | rfl | rfl | rfl
                    all_goals
                      go_wp2_with fail
                      go_roundw
                      case rel => exact ⟨m + 1, by omega, by omega, by go_num, by trivial⟩
                      case measure => simp [intOf]; omega
                  · obtain rfl : m = y := by omega
                    have z3 : ¬ ((m : Int) < (m : Int)) := by omega
                    have z4 : ¬ ((z : Int) < 1) := by omega
                    have z5 : ((m : Int) != (m : Int)) = false := by simp
                    go_wp2_with fail
                    go_roundw
                    case rel => exact ⟨t + 1, m + z, by omega, by go_num, by go_num, hidden ⟨fun _ => Hen.out.symm, fun h => by omega⟩, by trivial⟩
                    case measure => simp [intOf]; omega
              · obtain rfl : t = L := by omega
                have z2 : ¬ ((t : Int) < (t : Int)) := by omega
                have T2 := Ht3.out
                have t1 := Ht2.out
                rw [← hc] at T2 t1
                replace T2 := hidden T2
                clear hc Hc0
                go_wp2_with fail
                go_loopw [8] (fun now wq => ∃ m : Nat, c ≤ m ∧ m ≤ n ∧ now = .int .i64 (m : Nat) ∧ w6 = wq) (fun now _ => n - (intOf now).toNat)
                case atStart => exact ⟨c, Nat.le_refl _, t1, rfl, rfl⟩
                case round =>
                  obtain ⟨m, hm1, hm2, rfl, rfl⟩ := hrel
                  by_cases h3 : m < n
                  · have z3 : (m : Int) < (n : Int) := by omega
                    have hb := isB_cases (T2.out m hm1 h3)
                    have g0 := HP.out m (by omega)
                    generalize g m = gm at *
                    rcases hb with rfl | rfl | rfl | rfl
                    all_goals
                      go_wp2_with fail
                      go_roundw
                      case rel => exact ⟨m + 1, by omega, by omega, by go_num, by trivial⟩
                      case measure => simp [intOf]; omega
                  · obtain rfl : m = n := by omega
                    have z3 : ¬ ((m : Int) < (m : Int)) := by omega
                    go_wp2_with fail
                    go_roundw
                    case rel => exact ⟨t + 1, m, by omega, by go_num, rfl, hidden ⟨fun h => by omega, fun _ => rfl⟩, by trivial⟩
                    case measure => first | (simp [intOf]; done) | (simp [intOf]; omega)
            · obtain ⟨l, rfl⟩ : ∃ l, L = l + 1 := ⟨L - 1, by omega⟩
              have z1 : ¬ ((t : Int) ≤ ((l + 1 : Nat) : Int)) := by omega
              have e0 := (HC.out 0 (by omega)).1
              have e1 := (HC.out l (by omega)).1
              rw [Nat.zero_mul] at e0
              have hz1 := Hh1.out
              have hz2 := Hlast.out
              rw [Nat.add_sub_cancel] at hz2
              rw [hz1] at e0
              rw [hz2] at e1
              clear hz1 hz2 Ht1 Ht2 Ht3 Hlast
              go_wp2_with fail
              go_ret
              exact ⟨by simp, B6.out⟩
        · have hT := Hno.out hy
          have zy : ((y : Int) != 0) = true := by rw [bne_iff_ne]; omega
          have zx : (0 : Int) ≤ (x : Int) := by omega
          have zx2 : (x : Int) ≤ (k : Int) + 24 := by have := Hat.out; omega
          subst hT
          clear hy Htv Hf1 Hl1 Hno Hok Hat Hq0 Hq9 Hlt
          go_wp2_with fail
          refine cr.mono ?_
          rintro e w6 ⟨tv, rfl, ⟨aa, ac, rfl, _⟩, hb6⟩
          have B6 := hidden (Bz0.out.trans (hb6.mono Bz0.out.size))
          clear cr hb6
          go_wp2_with fail
          go_ret
          exact ⟨rfl, B6.out⟩
      · have h1 : 0 < (listOf g k).length := by omega
        have hsP' : Src (wr.alloc (.cells #[Value.int .u8 91, Value.int .u8 34, Value.int .u8 97, Value.int .u8 34, Value.int .u8 44, Value.int .u8 32, Value.int .u8 123, Value.int .u8 34, Value.int .u8 98, Value.int .u8 34, Value.int .u8 32, Value.int .u8 58, Value.int .u8 32, Value.int .u8 45, Value.int .u8 49, Value.int .u8 46, Value.int .u8 53, Value.int .u8 101, Value.int .u8 51, Value.int .u8 125, Value.int .u8 44, Value.int .u8 32] 5 (22, 23))) u3 (listOf g k) := hsP.below BN.out
        rcases hsP' with ⟨_, e⟩ | ⟨ad, cap', hv, hc⟩
        · rw [e] at h1; exact absurd h1 (by decide)
        have hn1 : Hid ((listOf g k).length ≤ 100000) := by unfold Hid; have := Hk.out; omega
        have hlk := hidden hl2
        subst hv
        clear hsP Hp h0 hl2
        generalize listOf g k = LP at *
        go_wp2_with (at_builtin; refine append_full rfl _ _ rfl ⟨wr.heap.size, 0, none⟩ CL LP cap' ad rfl hN rfl hc h1 (by decide) hn1.out ?_)
        intro v4 w4 ho4 hg4
        have hM4 := cells_new w4 [32, 93] #[Value.int .u8 32, Value.int .u8 93] 5 (0, 0) rfl
        have hS4 : Src (w4.alloc (.cells #[Value.int .u8 32, Value.int .u8 93] 5)) (.slice (some ⟨w4.heap.size, 0, none⟩) 2 2) [32, 93] := .inr ⟨_, _, rfl, hM4⟩
        have ho4' : w4.ownsRow (wr.heap.size + 1) 5 1 v4 (CL ++ LP).length (rowL (CL ++ LP)) := by rw [List.length_append]; exact ho4
        have ho4a := ho4'.alloc (.cells #[Value.int .u8 32, Value.int .u8 93] 5)
        have B40 := hidden (BN.out.grown hg4 (by simp) (by simp))
        have hl4 : Hid ((CL ++ LP).length ≤ 100000) := by unfold Hid; have := Hk.out; have := hlk.out; have h3 : CL.length = 22 := rfl; rw [List.length_append, h3]; omega
        have hb4 : wr.heap.size + 1 ≤ (w4.alloc (.cells #[Value.int .u8 32, Value.int .u8 93] 5)).heap.size := by have := hg4.size; simp at this ⊢; omega
        have B41 := hidden (B40.out.alloc B40.out.size (.cells #[Value.int .u8 32, Value.int .u8 93] 5))
        clear hg4 hN kc hc h1 hM4 ho4 ho4'
        generalize CL ++ LP = LA at *
        go_wp2_with (at_builtin; refine append_src rfl _ _ rfl (wr.heap.size + 1) _ LA rfl ho4a _ [32, 93] rfl hS4 hl4.out (by decide) hb4 ?_)
        intro v' wz ho hgz
        have Bz0 := hidden (B3.out.trans ((B41.out.grown hgz B41.out.size (fun j hj => by have := (ho4a.lt j hj).1; omega)).mono B3.out.size))
        replace ho : wz.ownsRow (wr.heap.size + 1) 5 1 v' (LA ++ [32, 93]).length (rowL (LA ++ [32, 93])) := by rw [List.length_append]; exact ho
        rw [HLq.out] at ho
        clear hgz ho4a hS4 hb4
        have hrow := row_ofL (n := k + 24) (L := Lq) Hql.out.symm (by rw [← Hql.out]; exact ho)
        have cr := read_any _ (k + 24) _ wz (fOf_lt Hlt.out) (by have := Hk.out; omega) hrow
        have Hrow := hidden hrow
        obtain ⟨va, vc, rfl, _⟩ := hrow
        have Hg : Hid (∀ j, fOf Lq j < 256) := fOf_lt Hlt.out
        have Hat : Hid ((ans (fOf Lq) (k + 24)).2.1 ≤ k + 24) := ans_at _
        have Htv : Hid ((ans (fOf Lq) (k + 24)).2.2 = 0 → Ts (fOf Lq) (ans (fOf Lq) (k + 24)).1 (k + 24)) := fun e => ans_tv Hg.out _ e
        have Hf1 : Hid ((ans (fOf Lq) (k + 24)).2.2 = 0 → ∃ ts, (ans (fOf Lq) (k + 24)).1 = (1, 0, 1) :: ts) := fun e => ans_first (by omega) Hq0.out e
        have Hl1 : Hid ((ans (fOf Lq) (k + 24)).2.2 = 0 → ∃ l, (ans (fOf Lq) (k + 24)).1 = l ++ [(2, k + 23, 1)]) := fun e => ans_last Hg.out Hq9.out e
        have Hno : Hid ((ans (fOf Lq) (k + 24)).2.2 ≠ 0 → (ans (fOf Lq) (k + 24)).1 = []) := fun e => by
          rcases ans_cases (fOf Lq) (k + 24) with h | h | ⟨j, x, _, _, h, _⟩
          · exact absurd h.1 e
          · rw [h]
          · rw [h]
        have Hok : Hid ((ans (fOf Lq) (k + 24)).2.2 = 0 → (ans (fOf Lq) (k + 24)).2.1 = 0) := fun e => by
          rcases ans_cases (fOf Lq) (k + 24) with h | h | ⟨j, x, _, _, h, _⟩
          · exact h.2
          · rw [h] at e; cases e
          · rw [h] at e ⊢; exact absurd e (by assumption)
        have HTl : Hid ((ans (fOf Lq) (k + 24)).1.length ≤ 1000000) := ans_len _ _ Hg.out (by have := Hk.out; omega)
        generalize ans (fOf Lq) (k + 24) = o at *
        obtain ⟨T, x, y⟩ := o
        simp only at Hat HTl Htv Hf1 Hl1 Hno Hok
        clear ho
        generalize fOf Lq = g at *
        by_cases hy : y = 0
        · have hx := Hok.out hy
          subst hy hx
          obtain ⟨ht1, ht2, ht3⟩ := ts_en (Htv.out rfl)
          obtain ⟨ts, hts⟩ := Hf1.out rfl
          obtain ⟨tl, htl⟩ := Hl1.out rfl
          have Hhead : Hid ((T.getD 0 (0, 0, 0)).1 = 1 ∧ 1 ≤ T.length) := by rw [hts]; exact ⟨rfl, by simp⟩
          have Hlast : Hid ((T.getD (T.length - 1) (0, 0, 0)).1 = 2) := by
            rw [htl]; simp [Hid]
          have Ht1 := hidden ht1
          have Ht2 := hidden ht2
          have Ht3 := hidden ht3
          clear hts htl ht1 ht2 ht3 Htv Hf1 Hl1 Hno Hok Hat Hq0 Hq9 Hlt
          go_wp2_with fail
          refine cr.mono ?_
          rintro e w6 ⟨tv, rfl, ht, hb6⟩
          have B6 := hidden (Bz0.out.trans (hb6.mono Bz0.out.size))
          have Hrow6 := hidden (Hrow.out.below hb6)
          obtain ⟨aa, ac, rfl, hA⟩ := ht
          have HA := hidden hA
          clear cr hb6 hA
          obtain ⟨a', cap', hva', hrw'⟩ := Hrow6.out
          injection hva' with e1 e2 e3
          subst e1 e3
          obtain ⟨b, off, rfl, hcap', hcell'⟩ := hrw' (by omega)
          have HP := hidden hcell'
          obtain ⟨hh1, hh2⟩ := Hhead.out
          have Hh1 := hidden hh1
          obtain ⟨ga, rfl, hac, hcells⟩ := HA.out hh2
          have HC := hidden hcells
          have hn1 : k + 24 ≤ 144 := by have := Hk.out; omega
          have hn0 : 1 ≤ k + 24 := by omega
          have hTl := HTl.out
          clear HA hcells hcell' hrw' e2 Hhead hh1
          generalize k + 24 = n at *
          generalize hL : T.length = L at *
          go_wp2_with fail
          go_loopw [8, 9, 10] (fun now i _ wq => ∃ t c : Nat, t ≤ L + 1 ∧ i = .int .i64 (t : Nat) ∧ now = .int .i64 (c : Nat) ∧ Hid ((t ≤ L → c = en T t) ∧ (L < t → c = n)) ∧ w6 = wq) (fun _ i _ _ => L + 1 - (intOf i).toNat)
          case atStart => exact ⟨0, 0, by omega, rfl, rfl, hidden ⟨fun _ => rfl, fun h => by omega⟩, rfl⟩
          case round =>
            obtain ⟨t, c, ht, rfl, rfl, Hc0, rfl⟩ := hrel
            by_cases h1 : t ≤ L
            · have z1 : (t : Int) ≤ (L : Int) := by omega
              have hc := Hc0.out.1 h1
              by_cases h2 : t < L
              · have z2 : (t : Int) < (L : Int) := by omega
                have hz : t < T.length := by omega
                obtain ⟨a1, a2, a3⟩ := HC.out t h2
                obtain ⟨t1, t2, t3, t4⟩ := Ht1.out t h2
                rw [← hc] at t1 t2
                have Hen : Hid (en T (t + 1) = (T.getD t (0, 0, 0)).2.1 + (T.getD t (0, 0, 0)).2.2) := by unfold Hid en; rw [if_neg (by omega), Nat.add_sub_cancel]
                have T2 := hidden t2
                clear t2 hc Hc0 hz
                generalize (T.getD t (0, 0, 0)).1 = x at *
                generalize (T.getD t (0, 0, 0)).2.1 = y at *
                generalize (T.getD t (0, 0, 0)).2.2 = z at *
                go_wp2_with fail
                go_loopw [8] (fun now wq => ∃ m : Nat, c ≤ m ∧ m ≤ y ∧ now = .int .i64 (m : Nat) ∧ w6 = wq) (fun now _ => y - (intOf now).toNat)
                case atStart => exact ⟨c, Nat.le_refl _, t1, rfl, rfl⟩
                case round =>
                  obtain ⟨m, hm1, hm2, rfl, rfl⟩ := hrel
                  by_cases h3 : m < y
                  · have z3 : (m : Int) < (y : Int) := by omega
                    have hb := isB_cases (T2.out m hm1 h3)
                    have g0 := HP.out m (by omega)
                    generalize g m = gm at *
                    rcases hb with rfl | rfl | rfl | rfl
                    all_goals
                      go_wp2_with fail
                      go_roundw
                      case rel => exact ⟨m + 1, by omega, by omega, by go_num, by trivial⟩
                      case measure => simp [intOf]; omega
                  · obtain rfl : m = y := by omega
                    have z3 : ¬ ((m : Int) < (m : Int)) := by omega
                    have z4 : ¬ ((z : Int) < 1) := by omega
                    have z5 : ((m : Int) != (m : Int)) = false := by simp
                    go_wp2_with fail
                    go_roundw
                    case rel => exact ⟨t + 1, m + z, by omega, by go_num, by go_num, hidden ⟨fun _ => Hen.out.symm, fun h => by omega⟩, by trivial⟩
                    case measure => simp [intOf]; omega
              · obtain rfl : t = L := by omega
                have z2 : ¬ ((t : Int) < (t : Int)) := by omega
                have T2 := Ht3.out
                have t1 := Ht2.out
                rw [← hc] at T2 t1
                replace T2 := hidden T2
                clear hc Hc0
                go_wp2_with fail
                go_loopw [8] (fun now wq => ∃ m : Nat, c ≤ m ∧ m ≤ n ∧ now = .int .i64 (m : Nat) ∧ w6 = wq) (fun now _ => n - (intOf now).toNat)
                case atStart => exact ⟨c, Nat.le_refl _, t1, rfl, rfl⟩
                case round =>
                  obtain ⟨m, hm1, hm2, rfl, rfl⟩ := hrel
                  by_cases h3 : m < n
                  · have z3 : (m : Int) < (n : Int) := by omega
                    have hb := isB_cases (T2.out m hm1 h3)
                    have g0 := HP.out m (by omega)
                    generalize g m = gm at *
                    rcases hb with rfl | rfl | rfl | rfl
                    all_goals
                      go_wp2_with fail
                      go_roundw
                      case rel => exact ⟨m + 1, by omega, by omega, by go_num, by trivial⟩
                      case measure => simp [intOf]; omega
                  · obtain rfl : m = n := by omega
                    have z3 : ¬ ((m : Int) < (m : Int)) := by omega
                    go_wp2_with fail
                    go_roundw
                    case rel => exact ⟨t + 1, m, by omega, by go_num, rfl, hidden ⟨fun h => by omega, fun _ => rfl⟩, by trivial⟩
                    case measure => first | (simp [intOf]; done) | (simp [intOf]; omega)
            · obtain ⟨l, rfl⟩ : ∃ l, L = l + 1 := ⟨L - 1, by omega⟩
              have z1 : ¬ ((t : Int) ≤ ((l + 1 : Nat) : Int)) := by omega
              have e0 := (HC.out 0 (by omega)).1
              have e1 := (HC.out l (by omega)).1
              rw [Nat.zero_mul] at e0
              have hz1 := Hh1.out
              have hz2 := Hlast.out
              rw [Nat.add_sub_cancel] at hz2
              rw [hz1] at e0
              rw [hz2] at e1
              clear hz1 hz2 Ht1 Ht2 Ht3 Hlast
              go_wp2_with fail
              go_ret
              exact ⟨by simp, B6.out⟩
        · have hT := Hno.out hy
          have zy : ((y : Int) != 0) = true := by rw [bne_iff_ne]; omega
          have zx : (0 : Int) ≤ (x : Int) := by omega
          have zx2 : (x : Int) ≤ (k : Int) + 24 := by have := Hat.out; omega
          subst hT
          clear hy Htv Hf1 Hl1 Hno Hok Hat Hq0 Hq9 Hlt
          go_wp2_with fail
          refine cr.mono ?_
          rintro e w6 ⟨tv, rfl, ⟨aa, ac, rfl, _⟩, hb6⟩
          have B6 := hidden (Bz0.out.trans (hb6.mono Bz0.out.size))
          clear cr hb6
          go_wp2_with fail
          go_ret
          exact ⟨rfl, B6.out⟩
theorem law (v : Value) (n : Nat) (f : Nat → Nat) (w : World) (h : IsArg w v n f) :
    Calls Try.prog 6 #[v] w fun e w' => e = .returned (.bool true) ∧ Below w.heap.size w w' := by
  by_cases hn : 120 < n
  · exact long v n f w h hn
  · exact short v n f w h (by omega)


set_option maxRecDepth 100000 in
theorem lifted (os : Os) (started : os.Started) (H : Type) (enc : TypeId × Value → H) :
    ReturnsInHanded {} Try.checked os 6 .any (Rows.jsonTokensSpec.pre6 enc Try.prog Try.f6 Rows.jsonTokensRow.domain false) (Rows.jsonTokensSpec.post enc Try.prog Try.f6 false true false false) := by
  refine returnsInHanded_of_change (C := Try.checked) own started (by kernel_rfl) Try.func6
    (ChangeSpec.witness6 (enc := enc) (C := Try.checked) false ⟨#[], #[.slice none 0 0], []⟩ 8 (by kernel_rfl) (by kernel_rfl) (by kernel_rfl) (by kernel_rfl)) ?_
  intro W base args ds gs before hval0 hW _ _
  have hval : ∀ (j : Nat) t v, Try.f6.params[j]? = some t → args[j]? = some v → Value.okWide Try.prog W .any base t v := hval0
  have hW' := hW
  obtain ⟨p, q, hA0, hV, rfl, _, _⟩ := hW
  have hA : DataW.TrodAll enc Try.prog W 0 (fun _ => true) true Try.f6.params.toList args.toList ds p := hA0
  rw [Try.params6] at hA hval
  obtain ⟨v0, vs0, d0, ds0, p0, q0, hargs, rfl, rfl, h0, r0⟩ := trodAll_cons hA
  obtain ⟨rfl, rfl, rfl⟩ := trodAll_nil r0
  obtain rfl : args = #[v0] := by cases args; simp_all
  obtain ⟨rfl, rfl⟩ := trodVars_none hV
  have lt0 : ∀ x ∈ p0, x.block < W.heap.size := by obtain ⟨m, hm⟩ := h0; exact DataW.trod_lt m _ _ _ hm
  obtain ⟨n0, f0, g0⟩ := open_bytes (hval 0 22 v0 rfl rfl) h0
  clear hA0 hval0
  simp only [List.append_nil] at hW'
  refine (law v0 n0 f0 W g0).mono fun e W' ⟨he, bel⟩ => ?_
  subst he
  exact ⟨_, rfl, _, _, _, [], _, [], hW', trodAll_mk1 (shut_bool Try.underlying4 _), (trodAll_cons_mk (Below.trod laidOut (by kernel_rfl) (of_decide_eq_true (by kernel_rfl)) h0 bel lt0) trodAll_mk0), rfl, bel.frame _, fun h => by cases h⟩

theorem said : Rows.JsonTokensSaid :=
  OpenClaim.holds_of_wide 6 Try.f6 rfl rfl rfl rfl rfl rfl rfl ⟨rfl, rfl, rfl, rfl, rfl⟩ rfl rfl rfl rfl rfl (by kernel_rfl) Try.func6 (by kernel_rfl)
    (of_decide_eq_true (by kernel_rfl)) (by unfold Func.isWrapper; first | (rw [if_pos (by decide +kernel)]; kernel_rfl) | (rw [if_neg (by decide +kernel)]; exact ⟨rfl, rfl⟩))
    (fun os started H enc _ => lifted os started H enc)
#print axioms said
end Go.Proofs.Ytapghnmeiahgoaa.Tokens
