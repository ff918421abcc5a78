/- Are two rows of tokens, of items, of texts the same? -/
import Derived.Test.YtfakfgmengcndaaKN
import Derived.Deep.QuietTactic
import Derived.BigQuiet
namespace Go.Proofs.PlatenTree
open Go Go.RowKit Go.Shelf
open Go.Proofs.PlatenLayout (str str_size itC rowI It IsItems OkL OkIt lay s0)
set_option linter.unusedVariables false
set_option maxRecDepth 100000

theorem bel_dN {B : Nat} {a w : World} (h : Below B a w) (n : Nat) : Below B a (w.drewN n) := h.trans ⟨rfl, rfl, rfl, Nat.le_refl _, fun _ _ => rfl⟩
theorem same_any (va vb : Value) (l : List Tk) (w : World) (hl : l.length ≤ 1000000) (ha : IsTk w va l) (hb : IsTk w vb l) :
    Calls Try.prog 13 #[va, vb] w fun e w' => e = .returned (.bool true) ∧ Below w.heap.size w w' := by
  obtain ⟨a, ca, rfl, ha⟩ := ha
  obtain ⟨b, cb, rfl, hb⟩ := hb
  have HA := hidden ha
  have HB := hidden hb
  clear ha hb
  obtain ⟨m, hm⟩ : ∃ m, l.length = m := ⟨_, rfl⟩
  rw [hm] at hl HA HB ⊢
  clear hm
  go_enter Try.func13, Try.ntmps13
  go_wp2
  go_loopw [5] (fun i wr => ∃ k : Nat, k ≤ m ∧ i = .int .i64 (k : Nat) ∧ ∃ q, wr = w.drewN q) (fun i _ => m - (intOf i).toNat)
  case atStart => exact ⟨0, Nat.zero_le _, rfl, 0, rfl⟩
  case round =>
    obtain ⟨k, hk, rfl, q, rfl⟩ := hrel
    by_cases hlt : k < m
    · obtain ⟨ga, rfl, hca, ra⟩ := HA.out (by omega)
      obtain ⟨gb, rfl, hcb, rb⟩ := HB.out (by omega)
      obtain ⟨a1, a2, a3⟩ := ra k hlt
      obtain ⟨b1, b2, b3⟩ := rb k hlt
      have hlz : (k : Int) < (m : Int) := by omega
      clear ra rb
      generalize (l.getD k (0, 0, 0)).1 = x at *
      generalize (l.getD k (0, 0, 0)).2.1 = y at *
      generalize (l.getD k (0, 0, 0)).2.2 = z at *
      go_wp2_with fail
      go_quiet (fail)
      go_wp2
      go_roundw
      case rel => exact ⟨k + 1, by omega, by go_num, _, rfl⟩
      case measure => simp [intOf]; omega
    · have hlz : ¬ ((k : Int) < (m : Int)) := by omega
      go_wp2
      go_ret
      exact ⟨rfl, bel_dN (Below.refl _ _) q⟩

theorem isame_any (va vb : Value) (l : List It) (w : World) (hl : l.length ≤ 1000000) (ha : IsItems w va l) (hb : IsItems w vb l) :
    Calls Try.prog 18 #[va, vb] w fun e w' => e = .returned (.bool true) ∧ Below w.heap.size w w' := by
  obtain ⟨a, ca, rfl, hca, ha⟩ := ha
  obtain ⟨b, cb, rfl, hcb, hb⟩ := hb
  have HA := hidden ha
  have HB := hidden hb
  clear ha hb
  obtain ⟨m, hm⟩ : ∃ m, l.length = m := ⟨_, rfl⟩
  have HM := hidden hm
  rw [hm] at hl hca hcb ⊢
  clear hm
  go_enter Try.func18, Try.ntmps18
  go_wp2
  go_loopw [5] (fun i wr => ∃ k : Nat, k ≤ m ∧ i = .int .i64 (k : Nat) ∧ ∃ q, wr = w.drewN q) (fun i _ => m - (intOf i).toNat)
  case atStart => exact ⟨0, Nat.zero_le _, rfl, 0, rfl⟩
  case round =>
    obtain ⟨k, hk, rfl, q, rfl⟩ := hrel
    by_cases hlt : k < m
    · obtain ⟨x, hx⟩ : ∃ x, l[k]? = some x := ⟨_, List.getElem?_eq_getElem (by rw [HM.out]; exact hlt)⟩
      obtain ⟨ba, oa, rfl, ra⟩ := HA.out (by rw [HM.out]; omega)
      obtain ⟨bb, ob, rfl, rb⟩ := HB.out (by rw [HM.out]; omega)
      have ra := ra k x hx
      have rb := rb k x hx
      have a0 := ra 0 _ rfl
      have a1 := ra 1 _ rfl
      have a2 := ra 2 _ rfl
      have a3 := ra 3 _ rfl
      have a4 := ra 4 _ rfl
      have a5 := ra 5 _ rfl
      have b0 := rb 0 _ rfl
      have b1 := rb 1 _ rfl
      have b2 := rb 2 _ rfl
      have b3 := rb 3 _ rfl
      have b4 := rb 4 _ rfl
      have b5 := rb 5 _ rfl
      simp only [Nat.add_zero] at a0 b0
      have hlz : (k : Int) < (m : Int) := by omega
      clear ra rb hx
      generalize (x.kind : Int) = x0 at *
      generalize str x.tx = x1 at *
      generalize x.n = x2 at *
      generalize x.off = x3 at *
      generalize x.col = x4 at *
      generalize x.whole = x5 at *
      go_wp2_with fail
      go_quiet (fail)
      go_wp2
      go_roundw
      case rel => exact ⟨k + 1, by omega, by go_num, _, rfl⟩
      case measure => simp [intOf]; omega
    · have hlz : ¬ ((k : Int) < (m : Int)) := by omega
      go_wp2
      go_ret
      exact ⟨rfl, bel_dN (Below.refl _ _) q⟩
/-- A row of texts. -/
def IsStrs (w : World) (u : Value) (l : List ByteArray) : Prop := ∃ B, w.ownsRow B 9 1 u l.length (l.map Value.string)
theorem IsStrs.at {w : World} {u : Value} {l : List ByteArray} (h : IsStrs w u l) : ∃ a cap, u = .slice a l.length cap ∧ (0 < l.length → ∃ g, a = some ⟨g, 0, none⟩ ∧ l.length ≤ cap ∧ ∀ i x, l[i]? = some x → w.cell? ⟨g, i, none⟩ = some (.string x)) := by
  obtain ⟨B, h⟩ := h
  have hc := fun g => h.cells (g := g)
  rcases h.2 with ⟨rfl, h0⟩ | ⟨g, cap, cur, rfl, hb, hg, hnc, _⟩
  · exact ⟨none, 0, by rw [h0], fun q => by omega⟩
  · refine ⟨_, cap, rfl, fun _ => ⟨g, rfl, hnc, fun i x hx => ?_⟩⟩
    have := hc g rfl i (.string x) (by rw [List.getElem?_map, hx]; rfl)
    rw [Addr.add_lit, Nat.zero_add] at this
    exact this
theorem IsStrs.below {w w' : World} {u : Value} {l : List ByteArray} (h : IsStrs w u l) (hb : Below w.heap.size w w') : IsStrs w' u l := by
  obtain ⟨B, h⟩ := h
  exact ⟨B, PlatenLayout.row_grown h (PlatenLayout.grown_below hb) (by simp)⟩
theorem alike_any (va vb : Value) (l : List ByteArray) (w : World) (hl : l.length ≤ 1000000) (ha : IsStrs w va l) (hb : IsStrs w vb l) :
    Calls Try.prog 20 #[va, vb] w fun e w' => e = .returned (.bool true) ∧ Below w.heap.size w w' := by
  obtain ⟨a, ca, rfl, ha2⟩ := ha.at
  obtain ⟨b, cb, rfl, hb2⟩ := hb.at
  have HA := hidden ha2
  have HB := hidden hb2
  clear ha hb ha2 hb2
  obtain ⟨m, hm⟩ : ∃ m, l.length = m := ⟨_, rfl⟩
  have HM := hidden hm
  rw [hm] at hl ⊢
  clear hm
  go_enter Try.func20, Try.ntmps20
  go_wp2
  go_loopw [5] (fun i wr => ∃ k : Nat, k ≤ m ∧ i = .int .i64 (k : Nat) ∧ ∃ q, wr = w.drewN q) (fun i _ => m - (intOf i).toNat)
  case atStart => exact ⟨0, Nat.zero_le _, rfl, 0, rfl⟩
  case round =>
    obtain ⟨k, hk, rfl, q, rfl⟩ := hrel
    by_cases hlt : k < m
    · obtain ⟨x, hx⟩ : ∃ x, l[k]? = some x := ⟨_, List.getElem?_eq_getElem (by rw [HM.out]; exact hlt)⟩
      obtain ⟨ga, rfl, hca, ra⟩ := HA.out (by rw [HM.out]; omega)
      obtain ⟨gb, rfl, hcb, rb⟩ := HB.out (by rw [HM.out]; omega)
      have a0 := ra k x hx
      have b0 := rb k x hx
      rw [HM.out] at hca hcb
      have hlz : (k : Int) < (m : Int) := by omega
      clear ra rb hx
      go_wp2_with fail
      go_quiet (fail)
      go_wp2
      go_roundw
      case rel => exact ⟨k + 1, by omega, by go_num, _, rfl⟩
      case measure => simp [intOf]; omega
    · have hlz : ¬ ((k : Int) < (m : Int)) := by omega
      go_wp2
      go_ret
      exact ⟨rfl, bel_dN (Below.refl _ _) q⟩
end Go.Proofs.PlatenTree

/- The document's Texts: the tokens' kinds and bytes. -/
namespace Go.Proofs.PlatenTree
open Go Go.RowKit Go.Shelf
open Go.Proofs.PlatenLayout (str str_size itC rowI It IsItems OkL OkIt lay s0 take_dst)
set_option linter.unusedVariables false
set_option maxRecDepth 100000

/-- A token's kind and bytes as one text. -/
def tks (t : Pc) : ByteArray := str ((48 + t.1) :: t.2)
theorem str_cat (a b : List Nat) : str a ++ str b = str (a ++ b) := by
  unfold str
  apply ByteArray.ext
  simp
theorem one_str {w : World} {g : Nat} {k : Nat} (hk : k < 256) (h : w.cell? ⟨g, 0, none⟩ = some (.int .u8 (k : Nat))) : (convert 22 9 (.slice (some ⟨g, 0, none⟩) 1 1)).run Try.prog w = .ok (.string (str [k])) w := by
  have : RowL w (.slice (some ⟨g, 0, none⟩) 1 1) [k] := ⟨_, _, rfl, fun _ => ⟨g, 0, rfl, Nat.le_refl _, fun j hj => by
    have hj : j < 1 := hj
    obtain rfl : j = 0 := by omega
    exact h⟩⟩
  exact conv_str this (by simpa using hk)
theorem info9 : (Try.prog.info? 9).map (fun i => (i.zero, i.size, i.bytes)) = some (some (.string ByteArray.empty), 1, 16) := by kernel_rfl
def S3 (tg q k a m : Nat) (u : World) : Prop := u.cell? ⟨tg, q * 3, none⟩ = some (.int .u8 (k : Nat)) ∧ u.cell? ⟨tg, q * 3 + 1, none⟩ = some (.int .i64 (a : Nat)) ∧ u.cell? ⟨tg, q * 3 + 2, none⟩ = some (.int .i64 (m : Nat))
theorem S3.below {tg q k a m : Nat} {w u : World} (h : S3 tg q k a m w) (hb : Below w.heap.size w u) : S3 tg q k a m u := by
  obtain ⟨h0, h1, h2⟩ := h
  refine ⟨?_, ?_, ?_⟩
  · rw [hb.cell (p := ⟨tg, q * 3, none⟩) (World.block_lt_of_cell? _ _ h0)]; exact h0
  · rw [hb.cell (p := ⟨tg, q * 3 + 1, none⟩) (World.block_lt_of_cell? _ _ h1)]; exact h1
  · rw [hb.cell (p := ⟨tg, q * 3 + 2, none⟩) (World.block_lt_of_cell? _ _ h2)]; exact h2
theorem cell_new1 (w : World) (x : Value) (t : TypeId) : (w.alloc (.cells #[x] t)).cell? ⟨w.heap.size, 0, none⟩ = some x := by
  have hh : (w.alloc (.cells #[x] t)).heap[w.heap.size]? = some (.cells #[x] t) := heap_alloc_new w _
  simp only [World.cell?, hh]
  rfl
set_option maxHeartbeats 8000000 in
theorem texts_any {v tv : Value} {p : List Nat} {T : List Tk} {w : World} (hp : ∀ c ∈ p, c < 256) (hn : p.length ≤ 69000) (h : RowL w v p) (ht : IsTk w tv T) (hT : T.length ≤ 69000) (hb : ∀ t ∈ T, t.1 ≤ 6 ∧ 1 ≤ t.2.2 ∧ t.2.1 + t.2.2 ≤ p.length) :
    Calls Try.prog 21 #[v, tv] w fun e w' => ∃ u, e = .returned u ∧ IsStrs w' u ((T.map (pcs p)).map tks) ∧ Below w.heap.size w w' := by
  obtain ⟨LL, hLL⟩ : ∃ LL, (T.map (pcs p)).map tks = LL := ⟨_, rfl⟩
  rw [hLL]
  have HLL := hidden hLL
  clear hLL
  obtain ⟨i9, hi9, hz9, hy9, hb9⟩ := info_parts info9
  obtain ⟨ta, tc, rfl, ht0⟩ := id ht
  clear ht0
  obtain ⟨va, vc, rfl⟩ := h.val
  have HT := hidden ht
  have HR := hidden h
  have HB := hidden hb
  have Hp := hidden hp
  clear ht h hb hp
  obtain ⟨N, hN⟩ : ∃ N, T.length = N := ⟨_, rfl⟩
  have HN := hidden hN
  rw [hN] at hT ⊢
  clear hN
  obtain ⟨n, hnn⟩ : ∃ n, p.length = n := ⟨_, rfl⟩
  have Hn := hidden hnn
  rw [hnn] at hn ⊢
  clear hnn
  go_enter Try.func21, Try.ntmps21
  go_wp2_with fail
  go_loopw [5, 6] (fun lv i wr => ∃ q : Nat, q ≤ N ∧ i = .int .i64 (q : Nat) ∧ wr.ownsRow w.heap.size 9 1 lv q (((T.take q).map fun t => Value.string (tks (pcs p t)))) ∧ Below w.heap.size w wr) (fun _ i _ => N - (intOf i).toNat)
  case atStart => exact ⟨0, Nat.zero_le _, rfl, World.ownsRow_nil _ _ _ _, Below.refl _ _⟩
  case round =>
    obtain ⟨q, hq, rfl, hown, hbe⟩ := hrel
    by_cases hlt : q < N
    · have hlz : (q : Int) < (N : Int) := by omega
      obtain ⟨t, hTq⟩ : ∃ t, T[q]? = some t := ⟨_, List.getElem?_eq_getElem (by rw [HN.out]; exact hlt)⟩
      obtain ⟨hk6, hm1, hbt⟩ := HB.out t (List.mem_of_getElem? hTq)
      obtain ⟨tg, tc', e0, hcap, c0, c1, c2⟩ := tk_at (HT.out.below hbe) hTq
      rw [HN.out] at e0
      injection e0 with e1 e2 e3
      subst e1 e3
      clear e2
      rw [HN.out] at hcap
      have hrw := HR.out.below hbe
      obtain ⟨va', vc', e0, hr0⟩ := id hrw
      obtain ⟨b, off, e4, hcp, _⟩ := hr0 (by omega)
      rw [Hn.out] at e0 hcp
      injection e0 with e1 e2 e3
      subst e1 e3 e4
      clear e2 hr0
      have hbt0 := hbt
      have hsub : True := trivial
      have htake : (T.take (q + 1)).map (fun t => Value.string (tks (pcs p t))) = (T.take q).map (fun t => Value.string (tks (pcs p t))) ++ [Value.string (tks (pcs p t))] := by rw [List.take_add_one, hTq]; simp
      obtain ⟨w0g, w0c, e5, _, x0, x1, x2⟩ := tk_at HT.out hTq
      injection e5 with e6 e7 e8
      injection e6 with e6
      injection e6 with e6 e9
      subst e6
      clear e7 e8 e9
      obtain ⟨k, a, m⟩ := t
      simp only at hk6 hm1 hbt c0 c1 c2 hsub x0 x1 x2
      rw [Hn.out] at hbt
      have hca : ¬ vc = a := by omega
      have hwam : IntKind.i64.wrap ((a : Int) + (m : Int)) = (a : Int) + (m : Int) := IntWalk.i64_in _ (by omega)
      have htn : ((a : Int) + (m : Int)).toNat = a + m := by omega
      have h0am : 0 ≤ (a : Int) + (m : Int) := by omega
      have hvc : (a : Int) + (m : Int) ≤ (vc : Int) := by omega
      have hle : a ≤ a + m := by omega
      have hsb : a + m - a = m := by omega
      have hw8 : IntKind.u8.wrap (48 + (k : Int)) = 48 + (k : Int) := IntWalk.u8_in _ (by omega)
      have hst : str [48 + k] ++ str (sl p a m) = tks (pcs p (k, a, m)) := str_cat _ _
      have hsz : ¬ 9223372036854775807 < (str [48 + k]).size + (str (sl p a m)).size := by rw [str_size, str_size, sl_len (by rw [Hn.out]; exact hbt)]; simp; omega
      have hszr := hbe.size
      have Htk := hidden htake
      have HSw : Hid (∀ u, Below w.heap.size w u → S3 tg q k a m u) := fun u hb => S3.below (w := w) (⟨x0, x1, x2⟩ : S3 tg q k a m w) hb
      have Hsub : Hid (∀ u, Below w.heap.size w u → RowL u (.slice (some ⟨b, off + a, none⟩) m (vc - a)) (sl p a m)) := fun u hb => (HR.out.below hb).sub hm1 hbt0
      clear x0 x1 x2
      have Hown := hidden hown
      have Hbe := hidden hbe
      clear htake hrw hsub hown hbe hTq
      generalize tks (pcs p (k, a, m)) = Y at *
      go_wp2_with fail
      refine wp_region_held_drew (S := S3 tg q k a m) (by kernel_rfl) (HSw.out _ (PlatenLayout.below_drew Hbe.out)) (fun hHeld => ?_)
      have hS0 : S3 tg q k a m wr.drew := HSw.out _ (PlatenLayout.below_drew Hbe.out)
      refine take_dst 0 (some 13) rfl rfl (by kernel_rfl) (by kernel_rfl) (by kernel_rfl) (fun _ _ _ h => h) (v := ?_) (Or.inl ⟨by rfl, ?_⟩) (by assumption) ?_
      rotate_left
      · (intro w hSw; obtain ⟨s0, s1, s2⟩ := hSw; go_simp; try with_reducible rfl)
      simp only [Act.put, List.setIfInBounds_toArray, List.set_cons_zero, List.set_cons_succ]
      refine take_dst 1 (some 14) rfl rfl (by kernel_rfl) (by kernel_rfl) (by kernel_rfl) (fun _ _ _ h => h) (v := ?_) (Or.inl ⟨by rfl, ?_⟩) (by assumption) ?_
      rotate_left
      · (intro w hSw; obtain ⟨s0, s1, s2⟩ := hSw; go_simp; try with_reducible rfl)
      simp only [Act.put, List.setIfInBounds_toArray, List.set_cons_zero, List.set_cons_succ]
      refine take_dst 2 (some 15) rfl rfl (by kernel_rfl) (by kernel_rfl) (by kernel_rfl) (fun _ _ _ h => h) (v := ?_) (Or.inl ⟨by rfl, ?_⟩) (by assumption) ?_
      rotate_left
      · (intro w hSw; obtain ⟨s0, s1, s2⟩ := hSw; go_simp; try with_reducible rfl)
      simp only [Act.put, List.setIfInBounds_toArray, List.set_cons_zero, List.set_cons_succ]
      refine take_dst 3 (some 16) rfl rfl (by kernel_rfl) (by kernel_rfl) (by kernel_rfl) (fun _ _ _ h => h) (v := ?_) (Or.inl ⟨by rfl, ?_⟩) (by assumption) ?_
      rotate_left
      · (intro w hSw; obtain ⟨s0, s1, s2⟩ := hSw; go_simp; try with_reducible rfl)
      simp only [Act.put, List.setIfInBounds_toArray, List.set_cons_zero, List.set_cons_succ]
      refine take_dst 4 (some 17) rfl rfl (by kernel_rfl) (by kernel_rfl) (by kernel_rfl) (fun _ _ _ h => h) (v := ?_) (Or.inl ⟨by rfl, ?_⟩) (by assumption) ?_
      rotate_left
      · (intro w hSw; obtain ⟨s0, s1, s2⟩ := hSw; go_simp; try with_reducible rfl)
      simp only [Act.put, List.setIfInBounds_toArray, List.set_cons_zero, List.set_cons_succ]
      refine take_dst 5 (some 18) rfl rfl (by kernel_rfl) (by kernel_rfl) (by kernel_rfl) (fun _ _ _ h => h) (v := ?_) (Or.inl ⟨by rfl, ?_⟩) (by assumption) ?_
      rotate_left
      · (intro w hSw; obtain ⟨s0, s1, s2⟩ := hSw; go_simp; try with_reducible rfl)
      simp only [Act.put, List.setIfInBounds_toArray, List.set_cons_zero, List.set_cons_succ]
      refine take_dst 6 (some 19) rfl rfl (by kernel_rfl) (by kernel_rfl) (by kernel_rfl) (fun _ _ _ h => h) (v := ?_) (Or.inl ⟨by rfl, ?_⟩) (by assumption) ?_
      rotate_left
      · (intro w hSw; obtain ⟨s0, s1, s2⟩ := hSw; go_simp; try with_reducible rfl)
      simp only [Act.put, List.setIfInBounds_toArray, List.set_cons_zero, List.set_cons_succ]
      refine take_dst 9 (some 22) rfl rfl (by kernel_rfl) (by kernel_rfl) (by kernel_rfl) (fun _ _ _ h => h) (v := ?_) (Or.inl ⟨by rfl, ?_⟩) (by assumption) ?_
      rotate_left
      · (intro w hSw; obtain ⟨s0, s1, s2⟩ := hSw; go_simp; try with_reducible rfl)
      simp only [Act.put, List.setIfInBounds_toArray, List.set_cons_zero, List.set_cons_succ]
      refine take_dst 10 (some 23) rfl rfl (by kernel_rfl) (by kernel_rfl) (by kernel_rfl) (fun _ _ _ h => h) (v := ?_) (Or.inl ⟨by rfl, ?_⟩) (by assumption) ?_
      rotate_left
      · (intro w hSw; obtain ⟨s0, s1, s2⟩ := hSw; go_simp; try with_reducible rfl)
      simp only [Act.put, List.setIfInBounds_toArray, List.set_cons_zero, List.set_cons_succ]
      refine take_dst 11 (some 24) rfl rfl (by kernel_rfl) (by kernel_rfl) (by kernel_rfl) (fun _ _ _ h => h) (v := ?_) (Or.inl ⟨by rfl, ?_⟩) (by assumption) ?_
      rotate_left
      · (intro w hSw; obtain ⟨s0, s1, s2⟩ := hSw; go_simp; try with_reducible rfl)
      simp only [Act.put, List.setIfInBounds_toArray, List.set_cons_zero, List.set_cons_succ]
      refine take_dst 12 (some 25) rfl rfl (by kernel_rfl) (by kernel_rfl) (by kernel_rfl) (fun _ _ _ h => h) (v := ?_) (Or.inl ⟨by rfl, ?_⟩) (by assumption) ?_
      rotate_left
      · (intro w hSw; obtain ⟨s0, s1, s2⟩ := hSw; go_simp; try with_reducible rfl)
      simp only [Act.put, List.setIfInBounds_toArray, List.set_cons_zero, List.set_cons_succ]
      refine take_dst 13 (some 26) rfl rfl (by kernel_rfl) (by kernel_rfl) (by kernel_rfl) (fun _ _ _ h => h) (v := ?_) (Or.inl ⟨by rfl, ?_⟩) (by assumption) ?_
      rotate_left
      · (intro w hSw; obtain ⟨s0, s1, s2⟩ := hSw; go_simp; try with_reducible rfl)
      simp only [Act.put, List.setIfInBounds_toArray, List.set_cons_zero, List.set_cons_succ]
      refine take_dst 14 (some 27) rfl rfl (by kernel_rfl) (by kernel_rfl) (by kernel_rfl) (fun _ _ _ h => h) (v := ?_) (Or.inl ⟨by rfl, ?_⟩) (by assumption) ?_
      rotate_left
      · (intro w hSw; obtain ⟨s0, s1, s2⟩ := hSw; go_simp; try with_reducible rfl)
      simp only [Act.put, List.setIfInBounds_toArray, List.set_cons_zero, List.set_cons_succ]
      refine take_dst 15 (some 28) rfl rfl (by kernel_rfl) (by kernel_rfl) (by kernel_rfl) (fun _ _ _ h => h) (v := ?_) (Or.inl ⟨by rfl, ?_⟩) (by assumption) ?_
      rotate_left
      · (intro w hSw; obtain ⟨s0, s1, s2⟩ := hSw; go_simp; try with_reducible rfl)
      simp only [Act.put, List.setIfInBounds_toArray, List.set_cons_zero, List.set_cons_succ]
      refine take_dst 16 (some 29) rfl rfl (by kernel_rfl) (by kernel_rfl) (by kernel_rfl) (fun _ _ _ h => h) (v := ?_) (Or.inl ⟨by rfl, ?_⟩) (by assumption) ?_
      rotate_left
      · (intro w hSw; obtain ⟨s0, s1, s2⟩ := hSw; go_simp; try with_reducible rfl)
      simp only [Act.put, List.setIfInBounds_toArray, List.set_cons_zero, List.set_cons_succ]
      refine take_dst 17 (some 30) rfl rfl (by kernel_rfl) (by kernel_rfl) (by kernel_rfl) (fun _ _ _ h => h) (v := ?_) (Or.inl ⟨by rfl, ?_⟩) (by assumption) ?_
      rotate_left
      · (intro w hSw; obtain ⟨s0, s1, s2⟩ := hSw; go_simp; try with_reducible rfl)
      simp only [Act.put, List.setIfInBounds_toArray, List.set_cons_zero, List.set_cons_succ]
      refine take_dst 18 (some 31) rfl rfl (by kernel_rfl) (by kernel_rfl) (by kernel_rfl) (fun _ _ _ h => h) (v := ?_) (Or.inl ⟨by rfl, ?_⟩) (by assumption) ?_
      rotate_left
      · (intro w hSw; obtain ⟨s0, s1, s2⟩ := hSw; go_simp; try with_reducible rfl)
      simp only [Act.put, List.setIfInBounds_toArray, List.set_cons_zero, List.set_cons_succ]
      refine take_dst 19 (some 32) rfl rfl (by kernel_rfl) (by kernel_rfl) (by kernel_rfl) (fun _ _ _ h => h) (v := ?_) (Or.inl ⟨by rfl, ?_⟩) (by assumption) ?_
      rotate_left
      · (intro w hSw; obtain ⟨s0, s1, s2⟩ := hSw; go_simp; try with_reducible rfl)
      simp only [Act.put, List.setIfInBounds_toArray, List.set_cons_zero, List.set_cons_succ]
      refine take_dst 20 (some 33) rfl rfl (by kernel_rfl) (by kernel_rfl) (by kernel_rfl) (fun _ _ _ h => h) (v := ?_) (Or.inl ⟨by rfl, ?_⟩) (by assumption) ?_
      rotate_left
      · (intro w hSw; obtain ⟨s0, s1, s2⟩ := hSw; go_simp; try with_reducible rfl)
      simp only [Act.put, List.setIfInBounds_toArray, List.set_cons_zero, List.set_cons_succ]
      refine take_dst 21 (some 34) rfl rfl (by kernel_rfl) (by kernel_rfl) (by kernel_rfl) (fun _ _ _ h => h) (v := ?_) (Or.inl ⟨by rfl, ?_⟩) (by assumption) ?_
      rotate_left
      · (intro w hSw; obtain ⟨s0, s1, s2⟩ := hSw; go_simp; try with_reducible rfl)
      simp only [Act.put, List.setIfInBounds_toArray, List.set_cons_zero, List.set_cons_succ]
      refine take_dst 22 (some 35) rfl rfl (by kernel_rfl) (by kernel_rfl) (by kernel_rfl) (fun _ _ _ h => h) (v := ?_) (Or.inl ⟨by rfl, ?_⟩) (by assumption) ?_
      rotate_left
      · (intro w hSw; obtain ⟨s0, s1, s2⟩ := hSw; go_simp; try with_reducible rfl)
      simp only [Act.put, List.setIfInBounds_toArray, List.set_cons_zero, List.set_cons_succ]
      refine take_dst 23 (some 36) rfl rfl (by kernel_rfl) (by kernel_rfl) (by kernel_rfl) (fun _ _ _ h => h) (v := ?_) (Or.inl ⟨by rfl, ?_⟩) (by assumption) ?_
      rotate_left
      · (intro w hSw; obtain ⟨s0, s1, s2⟩ := hSw; go_simp; try with_reducible rfl)
      simp only [Act.put, List.setIfInBounds_toArray, List.set_cons_zero, List.set_cons_succ]
      refine take_dst 24 (some 37) rfl rfl (by kernel_rfl) (by kernel_rfl) (by kernel_rfl) (fun _ _ _ h => h) (v := ?_) (Or.inl ⟨by rfl, ?_⟩) (by assumption) ?_
      rotate_left
      · (intro w hSw; obtain ⟨s0, s1, s2⟩ := hSw; go_simp; try with_reducible rfl)
      simp only [Act.put, List.setIfInBounds_toArray, List.set_cons_zero, List.set_cons_succ]
      refine take_dst 25 (some 38) rfl rfl (by kernel_rfl) (by kernel_rfl) (by kernel_rfl) (fun _ _ _ h => h) (v := ?_) (Or.inl ⟨by rfl, ?_⟩) (by assumption) ?_
      rotate_left
      · (intro w hSw; obtain ⟨s0, s1, s2⟩ := hSw; go_simp; try with_reducible rfl)
      simp only [Act.put, List.setIfInBounds_toArray, List.set_cons_zero, List.set_cons_succ]
      refine take_dst 26 (some 39) rfl rfl (by kernel_rfl) (by kernel_rfl) (by kernel_rfl) (fun _ _ _ h => h) (v := ?_) (Or.inl ⟨by rfl, ?_⟩) (by assumption) ?_
      rotate_left
      · (intro w hSw; obtain ⟨s0, s1, s2⟩ := hSw; go_simp; try with_reducible rfl)
      simp only [Act.put, List.setIfInBounds_toArray, List.set_cons_zero, List.set_cons_succ]
      have B0 : Hid (Below w.heap.size w wr.drew) := PlatenLayout.below_drew Hbe.out
      have b1 : Below w.heap.size w (wr.alloc (Obj.cells #[Value.int IntKind.u8 (48 + (k : Int))] 5)).drew := PlatenLayout.below_drew (Hbe.out.alloc hszr _)
      have cv0 := conv_str (Hsub.out _ B0.out) (sl_lt Hp.out a m)
      have cv1 := conv_str (Hsub.out _ b1) (sl_lt Hp.out a m)
      have n1 : ((wr.alloc (Obj.cells #[Value.int IntKind.u8 (48 + (k : Int))] 5)).drew).cell? ⟨wr.heap.size, 0, none⟩ = some (.int .u8 ((48 + k : Nat) : Int)) := by
        rw [show ((48 + k : Nat) : Int) = 48 + (k : Int) by omega]
        exact cell_new1 wr _ 5
      have cv2 := one_str (w := (wr.alloc (Obj.cells #[Value.int IntKind.u8 (48 + (k : Int))] 5)).drew) (by omega) n1
      have o1 : ((wr.alloc (Obj.cells #[Value.int IntKind.u8 (48 + (k : Int))] 5)).drew).ownsRow w.heap.size 9 1 u5 q ((T.take q).map fun t => Value.string (tks (pcs p t))) := PlatenLayout.row_grown (PlatenLayout.row_grown Hown.out (PlatenLayout.grownBy_alloc wr _) (by simp)) (PlatenLayout.grown_d _) (by simp)
      have hz1 : w.heap.size ≤ ((wr.alloc (Obj.cells #[Value.int IntKind.u8 (48 + (k : Int))] 5)).drew).heap.size := Nat.le_trans hszr (by show wr.heap.size ≤ (wr.alloc _).heap.size; simp)
      have b2 : Below w.heap.size w ((wr.alloc (Obj.cells #[Value.int IntKind.u8 (48 + (k : Int))] 5)).alloc (Obj.cells #[Value.string Y] 9)).drew := PlatenLayout.below_drew ((Hbe.out.alloc hszr _).alloc (Nat.le_trans hszr (by simp)) _)
      have o2 : (((wr.alloc (Obj.cells #[Value.int IntKind.u8 (48 + (k : Int))] 5)).alloc (Obj.cells #[Value.string Y] 9)).drew).ownsRow w.heap.size 9 1 u5 q ((T.take q).map fun t => Value.string (tks (pcs p t))) := PlatenLayout.row_grown (PlatenLayout.row_grown (PlatenLayout.row_grown Hown.out (PlatenLayout.grownBy_alloc wr _) (by simp)) (PlatenLayout.grownBy_alloc _ _) (by simp)) (PlatenLayout.grown_d _) (by simp)
      have n2 : ∀ j u, ([Value.string Y] : List Value)[j]? = some u → (((wr.alloc (Obj.cells #[Value.int IntKind.u8 (48 + (k : Int))] 5)).alloc (Obj.cells #[Value.string Y] 9)).drew).cell? ((⟨wr.heap.size + 1, 0, none⟩ : Addr).add j) = some u := by
        intro j u hj
        cases j with
        | zero =>
          simp at hj
          subst hj
          have := cell_new1 (wr.alloc (Obj.cells #[Value.int IntKind.u8 (48 + (k : Int))] 5)) (Value.string Y) 9
          rw [World.size_alloc] at this
          rw [Addr.add_lit]
          exact this
        | succ j => simp at hj
      have hz2 : w.heap.size ≤ (((wr.alloc (Obj.cells #[Value.int IntKind.u8 (48 + (k : Int))] 5)).alloc (Obj.cells #[Value.string Y] 9)).drew).heap.size := Nat.le_trans hszr (by show wr.heap.size ≤ ((wr.alloc _).alloc _).heap.size; simp; omega)
      have HS2 := hidden (HSw.out _ b2)
      have HB2 := hidden b2
      have HO2 := hidden o2
      have HN2 := hidden n2
      have HZ2 := hidden hz2
      clear b2 o2 n2 hz2
      have HB1 := hidden b1
      have HO1 := hidden o1
      have HZ1 := hidden hz1
      have HS1 := hidden (HSw.out _ b1)
      have HS0 := hidden hS0
      obtain ⟨Z, hZ⟩ : ∃ Z, str (sl p a m) = Z := ⟨_, rfl⟩
      obtain ⟨D, hD⟩ : ∃ D, str [48 + k] = D := ⟨_, rfl⟩
      rw [hZ] at cv0 cv1 hst hsz
      rw [hD] at cv2 hst hsz
      clear hZ hD b1 n1 o1 hz1 hS0
      refine wpAnyH_ready (rs := [7, 27]) (by kernel_rfl) (by simp) ?_
      refine AllReadyH.cons rfl (fun K hK => ?_) (AllReadyH.cons rfl (fun K hK => ?_) AllReadyH.nil)
      · go_simp
        refine hK.out _ _ HS1.out (fun hHelda => ?_)
        clear hK K
        refine wpAnyH_ready (rs := [8, 27]) (by kernel_rfl) (by simp) ?_
        refine AllReadyH.cons rfl (fun K hK => ?_) (AllReadyH.cons rfl (fun K hK => ?_) AllReadyH.nil)
        · go_simp
          refine hK.out _ _ HS1.out (fun hHeldb => ?_)
          clear hK K
          refine wpAnyH_ready (rs := [27]) (by kernel_rfl) (by simp) ?_
          refine AllReadyH.cons rfl (fun K hK => ?_) AllReadyH.nil
          go_simp
          refine hK.out _ _ HS1.out (fun hHeldc => ?_)
          clear hK K
          refine wpAnyH_ready (rs := [28]) (by kernel_rfl) (by simp) ?_
          refine AllReadyH.cons rfl (fun K hK => ?_) AllReadyH.nil
          go_simp
          refine hK.out _ _ HS1.out (fun hHeldd => ?_)
          clear hK K
          refine wpAnyH_ready (rs := [29]) (by kernel_rfl) (by simp) ?_
          refine AllReadyH.cons rfl (fun K hK => ?_) AllReadyH.nil
          go_simp
          refine hK.out _ _ HS2.out (fun hHelde => ?_)
          clear hK K
          refine wpAnyH_ready (rs := [30]) (by kernel_rfl) (by simp) ?_
          refine AllReadyH.cons rfl (fun K hK => ?_) AllReadyH.nil
          apply PlatenLayout.step_append_wh (s := .tmp 13) (x := .tmp 42) (t := 43) (base := w.heap.size) (e := 9) (i := i9) (z := .string ByteArray.empty) (size := 1) (bytes := 16) (v := u5) (n := q) (xs := (T.take q).map fun t => Value.string (tks (pcs p t))) (ad := ⟨wr.heap.size + 1, 0, none⟩) (m := 1) (c := 1) (news := [.string Y])
          case hgd => rfl
          case hop => rfl
          case ht => exact Try.underlying43
          case hi => exact hi9
          case hz => exact hz9
          case hsize => exact hy9
          case hby => exact hb9
          case hzs => rfl
          case hsz => decide
          case hs => simp [Act.eval]
          case hown => exact HO2.out
          case hx => simp [Act.eval]
          case hl => rfl
          case hnews => exact HN2.out
          case h1 => intro u hu; simp at hu; subst hu; rfl
          case h63 => unfold maxLen; omega
          case hbytes => omega
          case hbase => exact HZ2.out
          case hm => decide
          intro v' w7 hr7 hg7 _
          have b7 : Below w.heap.size w w7 := HB2.out.grown hg7.out HZ2.out (fun j hj => (HO2.out.lt j hj).1)
          refine hK.out _ _ (HSw.out _ b7) (fun hHeldf => ?_)
          have HB7 := hidden b7
          have HR7 := hidden hr7.out
          clear hK K hr7 hg7 b7
          refine take_dst 31 (some 5) rfl rfl (by kernel_rfl) (by kernel_rfl) (by kernel_rfl) (fun _ _ _ h => h) (v := ?_) (Or.inl ⟨by rfl, ?_⟩) (by assumption) ?_
          rotate_left
          · (intro w hSw; go_simp; try with_reducible rfl)
          simp only [Act.put, List.setIfInBounds_toArray]
          refine wpAnyH_done (by kernel_rfl) ?_ _
          clear hHeld hHelda hHeldb hHeldc hHeldd hHelde hHeldf
          go_wp2_with fail
          go_roundw
          case rel =>
            refine ⟨q + 1, by omega, by go_num, ?_, HB7.out⟩
            rw [Htk.out]
            exact HR7.out
          case measure => simp [intOf]; omega
        · go_simp
          refine hK.out _ _ HS1.out (fun hHeldb => ?_)
          clear hK K
          refine wpAnyH_ready (rs := [8]) (by kernel_rfl) (by simp) ?_
          refine AllReadyH.cons rfl (fun K hK => ?_) AllReadyH.nil
          go_simp
          refine hK.out _ _ HS1.out (fun hHeldc => ?_)
          clear hK K
          refine wpAnyH_ready (rs := [28]) (by kernel_rfl) (by simp) ?_
          refine AllReadyH.cons rfl (fun K hK => ?_) AllReadyH.nil
          go_simp
          refine hK.out _ _ HS1.out (fun hHeldd => ?_)
          clear hK K
          refine wpAnyH_ready (rs := [29]) (by kernel_rfl) (by simp) ?_
          refine AllReadyH.cons rfl (fun K hK => ?_) AllReadyH.nil
          go_simp
          refine hK.out _ _ HS2.out (fun hHelde => ?_)
          clear hK K
          refine wpAnyH_ready (rs := [30]) (by kernel_rfl) (by simp) ?_
          refine AllReadyH.cons rfl (fun K hK => ?_) AllReadyH.nil
          apply PlatenLayout.step_append_wh (s := .tmp 13) (x := .tmp 42) (t := 43) (base := w.heap.size) (e := 9) (i := i9) (z := .string ByteArray.empty) (size := 1) (bytes := 16) (v := u5) (n := q) (xs := (T.take q).map fun t => Value.string (tks (pcs p t))) (ad := ⟨wr.heap.size + 1, 0, none⟩) (m := 1) (c := 1) (news := [.string Y])
          case hgd => rfl
          case hop => rfl
          case ht => exact Try.underlying43
          case hi => exact hi9
          case hz => exact hz9
          case hsize => exact hy9
          case hby => exact hb9
          case hzs => rfl
          case hsz => decide
          case hs => simp [Act.eval]
          case hown => exact HO2.out
          case hx => simp [Act.eval]
          case hl => rfl
          case hnews => exact HN2.out
          case h1 => intro u hu; simp at hu; subst hu; rfl
          case h63 => unfold maxLen; omega
          case hbytes => omega
          case hbase => exact HZ2.out
          case hm => decide
          intro v' w7 hr7 hg7 _
          have b7 : Below w.heap.size w w7 := HB2.out.grown hg7.out HZ2.out (fun j hj => (HO2.out.lt j hj).1)
          refine hK.out _ _ (HSw.out _ b7) (fun hHeldf => ?_)
          have HB7 := hidden b7
          have HR7 := hidden hr7.out
          clear hK K hr7 hg7 b7
          refine take_dst 31 (some 5) rfl rfl (by kernel_rfl) (by kernel_rfl) (by kernel_rfl) (fun _ _ _ h => h) (v := ?_) (Or.inl ⟨by rfl, ?_⟩) (by assumption) ?_
          rotate_left
          · (intro w hSw; go_simp; try with_reducible rfl)
          simp only [Act.put, List.setIfInBounds_toArray]
          refine wpAnyH_done (by kernel_rfl) ?_ _
          clear hHeld hHelda hHeldb hHeldc hHeldd hHelde hHeldf
          go_wp2_with fail
          go_roundw
          case rel =>
            refine ⟨q + 1, by omega, by go_num, ?_, HB7.out⟩
            rw [Htk.out]
            exact HR7.out
          case measure => simp [intOf]; omega
      · go_simp
        refine hK.out _ _ HS0.out (fun hHelda => ?_)
        clear hK K
        refine wpAnyH_ready (rs := [7]) (by kernel_rfl) (by simp) ?_
        refine AllReadyH.cons rfl (fun K hK => ?_) AllReadyH.nil
        go_simp
        refine hK.out _ _ HS1.out (fun hHeldb => ?_)
        clear hK K
        refine wpAnyH_ready (rs := [8]) (by kernel_rfl) (by simp) ?_
        refine AllReadyH.cons rfl (fun K hK => ?_) AllReadyH.nil
        go_simp
        refine hK.out _ _ HS1.out (fun hHeldc => ?_)
        clear hK K
        refine wpAnyH_ready (rs := [28]) (by kernel_rfl) (by simp) ?_
        refine AllReadyH.cons rfl (fun K hK => ?_) AllReadyH.nil
        go_simp
        refine hK.out _ _ HS1.out (fun hHeldd => ?_)
        clear hK K
        refine wpAnyH_ready (rs := [29]) (by kernel_rfl) (by simp) ?_
        refine AllReadyH.cons rfl (fun K hK => ?_) AllReadyH.nil
        go_simp
        refine hK.out _ _ HS2.out (fun hHelde => ?_)
        clear hK K
        refine wpAnyH_ready (rs := [30]) (by kernel_rfl) (by simp) ?_
        refine AllReadyH.cons rfl (fun K hK => ?_) AllReadyH.nil
        apply PlatenLayout.step_append_wh (s := .tmp 13) (x := .tmp 42) (t := 43) (base := w.heap.size) (e := 9) (i := i9) (z := .string ByteArray.empty) (size := 1) (bytes := 16) (v := u5) (n := q) (xs := (T.take q).map fun t => Value.string (tks (pcs p t))) (ad := ⟨wr.heap.size + 1, 0, none⟩) (m := 1) (c := 1) (news := [.string Y])
        case hgd => rfl
        case hop => rfl
        case ht => exact Try.underlying43
        case hi => exact hi9
        case hz => exact hz9
        case hsize => exact hy9
        case hby => exact hb9
        case hzs => rfl
        case hsz => decide
        case hs => simp [Act.eval]
        case hown => exact HO2.out
        case hx => simp [Act.eval]
        case hl => rfl
        case hnews => exact HN2.out
        case h1 => intro u hu; simp at hu; subst hu; rfl
        case h63 => unfold maxLen; omega
        case hbytes => omega
        case hbase => exact HZ2.out
        case hm => decide
        intro v' w7 hr7 hg7 _
        have b7 : Below w.heap.size w w7 := HB2.out.grown hg7.out HZ2.out (fun j hj => (HO2.out.lt j hj).1)
        refine hK.out _ _ (HSw.out _ b7) (fun hHeldf => ?_)
        have HB7 := hidden b7
        have HR7 := hidden hr7.out
        clear hK K hr7 hg7 b7
        refine take_dst 31 (some 5) rfl rfl (by kernel_rfl) (by kernel_rfl) (by kernel_rfl) (fun _ _ _ h => h) (v := ?_) (Or.inl ⟨by rfl, ?_⟩) (by assumption) ?_
        rotate_left
        · (intro w hSw; go_simp; try with_reducible rfl)
        simp only [Act.put, List.setIfInBounds_toArray]
        refine wpAnyH_done (by kernel_rfl) ?_ _
        clear hHeld hHelda hHeldb hHeldc hHeldd hHelde hHeldf
        go_wp2_with fail
        go_roundw
        case rel =>
          refine ⟨q + 1, by omega, by go_num, ?_, HB7.out⟩
          rw [Htk.out]
          exact HR7.out
        case measure => simp [intOf]; omega
    · have hqN : q = N := by omega
      have hlz : ¬ ((q : Int) < (N : Int)) := by omega
      have e : ((T.take q).map fun t => Value.string (tks (pcs p t))) = (LL.map Value.string) := by
        rw [← HLL.out]
        rw [List.take_of_length_le (by rw [HN.out]; omega), List.map_map, List.map_map]
        rfl
      rw [e] at hown
      have hl : LL.length = q := by rw [← HLL.out, List.length_map, List.length_map, HN.out, hqN]
      have Hown := hidden hown
      have Hbe := hidden hbe
      have Hl := hidden hl
      clear hqN e hown hbe hl
      go_wp2_with fail
      go_ret
      have hf := Hown.out
      rw [← Hl.out] at hf
      refine ⟨_, rfl, ?_, Hbe.out⟩
      exact ⟨w.heap.size, hf⟩
end Go.Proofs.PlatenTree
