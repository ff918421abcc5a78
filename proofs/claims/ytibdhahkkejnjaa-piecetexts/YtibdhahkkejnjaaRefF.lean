/- What the document's Insert comes to, where bytes come. -/
import Derived.Test.YtibdhahkkejnjaaRefE
import Derived.Test.YtibdhahkkejnjaaPsB
namespace Go.Proofs.PlatenPiece
open Go Go.RowKit
set_option linter.unusedVariables false
set_option maxRecDepth 100000

/-- Does the piece go on? -/
def onOf (cs : List Rc) (at' : Nat) (N : Int) : Bool := decide (0 < at' ∧ 0 < N) && ((cs[at' - 1]?.getD ⟨0, 0, false⟩).n == N)
/-- What the cells are behind an Insert. -/
def rins (cs : List Rc) (at' : Nat) (l : List Nat) (N : Int) : List Rc := ((setF cs at').take at' ++ comeC l N (onOf (setF cs at') at' N)) ++ (setF cs at').drop at'

theorem grown_drew' (w : World) : w.grownBy w.drew none := ⟨rfl, rfl, rfl, Nat.le_refl _, fun _ _ _ => rfl⟩
theorem RTab.num {B : Nat} {w : World} {M : Nat} {lv : Value} {cs : List Rc} {N : Int} (h : RTab B w M lv cs N) (N' : Int) : RTab B (w.setCell ⟨M, 1, none⟩ (.int .i64 N')) M lv cs N' where
  low := h.low
  head := by rw [heap_setCell_same _ M 1 _ 38 _ h.head]; rfl
  row := h.row.kept (grownBy_set w M 1 _) (Or.inr h.apart)
theorem RTab.kept1 {B b : Nat} {w0 wr u w1 : World} {M : Nat} {lv lv0 v : Value} {cz : List Rc} {N : Int} (hT : RTab B wr M lv cz N) (hK : Kept (ROwn M lv0) w0 wr) (hb : b = w0.heap.size) (hv : ∀ j, v.ownBlock = some j → b ≤ j) (hlv : ∀ j, lv.ownBlock = some j → j < b) (hM : M < b) (hu : Rl wr u) (hg : u.grownBy w1 v.ownBlock) :
    Hid (RTab B w1 M lv cz N) ∧ Hid (Kept (ROwn M lv0) w0 w1) := by
  have hg' := grown_trans hu hg
  have k1 : Kept (fun k => v.ownBlock = some k) wr w1 := ⟨hg'.os, hg'.tape, hg'.output, hg'.size, fun k hk hne => hg'.block k hk (fun e => hne e.symm)⟩
  refine ⟨⟨hT.low, ?_, ?_⟩, hK.trans k1 (fun i hi ho => by have := hv i ho; omega)⟩
  · rw [hg'.block M hT.lt (fun e => by have := hv M e.symm; omega)]; exact hT.head
  · refine hT.row.kept hg' ?_
    cases hx : v.ownBlock with
    | none => cases lv.ownBlock <;> simp
    | some j =>
      refine Or.inr (fun e => ?_)
      have h1 := hv j hx
      have h2 := hlv j e
      omega
/-- The first part of what comes. -/
theorem come_next {cz : List Rc} {at' k n x : Nat} {l : List Nat} {N : Int} {on : Bool} (hx : l[k]? = some x) (hl : l.length = n) (hk : k < n) : rowC (cz.take at' ++ comeC (l.take (k + 1)) N on) = rowC (cz.take at' ++ comeC (l.take k) N on) ++ [.int .u8 x, .int .i64 (N + (k : Int) + 1), .bool (((k : Int) == 0) && !on)] := by
  rw [List.take_add_one, hx, Option.toList_some, comeC_snoc, List.length_take, hl, Nat.min_eq_left (by omega), ← List.append_assoc, rowC_app (cz.take at' ++ comeC (l.take k) N on)]
  rfl

set_option maxHeartbeats 4000000 in
theorem rins_lt_n0 (B M g vc : Nat) (cs : List Rc) (N : Int) (at' : Nat) (ad : Addr) (cap n : Nat) (l : List Nat) (w : World) (s : Nat) (h : RTab B w M (.slice (some ⟨g, 0, none⟩) s vc) cs N) (hs : cs.length = s) (hs2 : s + n ≤ 65536) (hat : at' ≤ s) (hB : B ≤ w.heap.size) (hvc : s ≤ vc) (hvm : vc ≤ 9223372036854775807)
    (hl : l.length = n) (hn : 0 < n) (hN : 0 ≤ N ∧ N ≤ 1000000000) (hc : ∀ j u, (bytesV l)[j]? = some u → w.cell? (ad.add j) = some u) (hout : ¬ ROwn M (.slice (some ⟨g, 0, none⟩) s vc) ad.block) (ha : at' < s) (h0 : 0 < at') (h00 : N ≤ 0) :
    Calls Try.prog 45 #[.pointer (some ⟨M, 0, none⟩), .int .i64 at', .slice (some ad) n cap] w fun e w' => e = .returned (.int .i64 0) ∧ ∃ lv', RTab B w' M lv' (rins cs at' l N) (N + (n : Int)) ∧ Kept (ROwn M (.slice (some ⟨g, 0, none⟩) s vc)) w w' ∧ (∀ k, lv'.ownBlock = some k → w.heap.size ≤ k) := by
  obtain ⟨i0, hi, hz0, hz1, hz2⟩ := info_parts info59
  have HG : Hid (∀ k, k < n → ∃ x : Nat, l[k]? = some x ∧ ∀ wr, Kept (ROwn M (.slice (some ⟨g, 0, none⟩) s vc)) w wr → wr.cell? (ad.add k) = some (.int .u8 x)) := fun k hk => by
    have hk' : k < l.length := by omega
    refine ⟨l[k], List.getElem?_eq_getElem hk', fun wr hb => ?_⟩
    have h2 := hc k _ (show (bytesV l)[k]? = some (.int .u8 (l[k] : Nat)) by simp [bytesV, List.getElem?_eq_getElem hk'])
    have hbk : (ad.add k).block = ad.block := by unfold Addr.add; split <;> rfl
    have h3 := hb.block (ad.add k).block (World.block_lt_of_cell? _ _ h2) (by rw [hbk]; exact hout)
    rw [← h2]
    simp only [World.cell?, h3]
  have c0 := h.c0
  have c1 := h.c1
  have HT := hidden h
  have Hs := hidden hs
  have Hl := hidden hl
  have h1 : ¬ ((s : Int) < (at' : Int)) := by omega
  have h2 : ¬ (65536 < (s : Int) + (n : Int)) := by omega
  have h3 : ¬ ((n : Int) = 0) := by omega
  have hw1 : IntKind.i64.wrap ((s : Int) + (n : Int)) = (s : Int) + (n : Int) := IntWalk.i64_in _ (by omega)
  clear h hs hl hc
  have haz : (at' : Int) < (s : Int) := by omega
  obtain ⟨HT1, HK1, x0, x1⟩ := HT.out.firstAt Hs.out at' ha
  have hl1 : (setF cs at').length = s := by rw [setF_len]; exact Hs.out
  have e0 := HT1.out.c0
  have e1 := HT1.out.c1
  have ha0z : 0 < (at' : Int) := by omega
  have Hon : Hid (onOf (setF cs at') at' N = false) := by unfold Hid onOf; rw [decide_eq_false (by omega)]; rfl
  obtain ⟨on, hon⟩ : ∃ on, on = false := ⟨_, rfl⟩
  rw [← hon] at Hon
  have Hl1 := hidden hl1
  clear hl1
  unfold rins
  rw [Hon.out]
  generalize hcz : setF cs at' = cz at *
  have hMw := HT.out.lt
  obtain ⟨b, hb⟩ : ∃ b, w.heap.size = b := ⟨_, rfl⟩
  have Hb := hidden hb
  have HLV : Hid (∀ j, Value.ownBlock (.slice (some ⟨g, 0, none⟩) s vc) = some j → j < b) := fun j hj => by rw [← hb]; exact (HT.out.row.lt j hj).2
  rw [hb] at hMw hB
  clear hb hcz Hon
  go_enter Try.func45, Try.ntmps45
  go_wp2_with (at_builtin; fail)
  generalize (w.setCell ⟨g, at' * 3 + 2, none⟩ (.bool true)) = W at *
  clear x0 x1 c0 c1
  have hN0z : ¬ (0 < N) := by omega
  have hN0d : decide (0 < N) = false := decide_eq_false hN0z
  go_quiet (fail)
  subst hon
  go_wp2_with (at_builtin; refine wpList_append_own _ rfl _ _ 36 rfl b 83 i0 (.agg #[.int .u8 0, .int .i64 0, .bool false]) 3 24 Try.underlying36 hi hz0 hz1 hz2 rfl (by decide) _ _ _ rfl (World.ownsRow_nil _ _ _ _) ⟨g, 0, none⟩ at' vc (rowC (cz.take at')) rfl ?d0 (HT1.out.headCells at') (rowC_one _) ?d3 ?d4 ?d5 ?_)
  case d0 => rw [rowC_len, List.length_take, Hl1.out, Nat.min_eq_left (by omega)]
  case d3 => unfold maxLen; omega
  case d4 => omega
  case d5 => rw [← Hb.out]; exact HK1.out.size
  intro v1 w1 hr1 hg1 _
  have hg1 : W.grownBy w1 none := ⟨hg1.os, hg1.tape, hg1.output, hg1.size, fun k hk hne => hg1.block k hk hne⟩
  have HT2 := hidden (HT1.out.grown hg1)
  have HK2 := hidden (HK1.out.trans (O' := ROwn M (.slice (some ⟨g, 0, none⟩) s vc)) (kept_none hg1) (fun _ _ h => h))
  have hr1' : w1.ownsRow b 83 3 v1 at' (rowC (cz.take at')) := by simpa using hr1
  have HR2 := hidden hr1'
  clear hr1 hr1' hg1 e0 e1
  go_wp2_with fail
  go_loopw [8, 9] (fun v j wr => ∃ k : Nat, k ≤ n ∧ j = .int .i64 (k : Nat) ∧ wr.ownsRow b 83 3 v (at' + k) (rowC (cz.take at' ++ comeC (l.take k) N false)) ∧ RTab B wr M (.slice (some ⟨g, 0, none⟩) s vc) cz (N + (k : Int)) ∧ Kept (ROwn M (.slice (some ⟨g, 0, none⟩) s vc)) w wr) (fun _ j _ => n - (intOf j).toNat)
  case atStart => exact ⟨0, Nat.zero_le _, rfl, by simpa [comeC] using HR2.out, by simpa using HT2.out, HK2.out⟩
  case round =>
    obtain ⟨k, hk, rfl, hr, hT, hK⟩ := hrel
    obtain ⟨va3, vc3, hv3⟩ := own_any_slice hr
    subst hv3
    have HV3 : Hid (∀ j, Value.ownBlock (.slice va3 (at' + k) vc3) = some j → b ≤ j) := fun j hj => (hr.lt j hj).1
    by_cases hlt : k < n
    · obtain ⟨x, hx, hcx⟩ := HG.out k hlt
      have d0 := hT.c0
      have d1 := hT.c1
      have d2 := hT.fz 1
      have hkz : (k : Int) < (n : Int) := by omega
      have hw3 : IntKind.i64.wrap (N + (k : Int) + 1) = N + (k : Int) + 1 := IntWalk.i64_in _ (by omega)
      have HN := hidden (come_next (cz := cz) (at' := at') (N := N) (on := false) hx Hl.out hlt)
      have HRs : Hid ((wr.setCell ⟨M, 1, none⟩ (.int .i64 (N + (k : Int) + 1))).ownsRow b 83 3 (.slice va3 (at' + k) vc3) (at' + k) (rowC (cz.take at' ++ comeC (l.take k) N false))) := hr.kept (grownBy_set wr M 1 _) (Or.inr (fun e => by have := HV3.out M e; omega))
      have HTs := hidden (hT.num (N + (k : Int) + 1))
      have HKs := hidden (hK.trans (kept_some (grownBy_set wr M 1 (.int .i64 (N + (k : Int) + 1))) (O := ROwn M (.slice (some ⟨g, 0, none⟩) s vc)) (Or.inl rfl)) (fun _ _ h => h))
      have Hcx := hidden hcx
      clear hr hT hK hcx hx
      go_wp2_with fail
      generalize (wr.setCell ⟨M, 1, none⟩ (.int .i64 (N + (k : Int) + 1))) = Wr at *
      clear d0 d1 d2
      have hgd := grown_drew' Wr
      have HTd := hidden (HTs.out.grown hgd)
      have HKd := hidden (HKs.out.trans (O' := ROwn M (.slice (some ⟨g, 0, none⟩) s vc)) (kept_none hgd) (fun _ _ h => h))
      have HRd : Hid (Wr.drew.ownsRow b 83 3 (.slice va3 (at' + k) vc3) (at' + k) (rowC (cz.take at' ++ comeC (l.take k) N false))) := HRs.out
      clear hgd HTs HKs HRs
      have HSx : Hid (∀ u, Kept (ROwn M (.slice (some ⟨g, 0, none⟩) s vc)) w u → u.cell? ⟨M, 1, none⟩ = some (.int .i64 (N + (k : Int) + 1)) → (fun u : World => u.cell? (ad.add k) = some (.int .u8 x) ∧ u.cell? ⟨M, 1, none⟩ = some (.int .i64 (N + (k : Int) + 1))) u) := fun u hu hm => ⟨Hcx.out u hu, hm⟩
      by_cases hk0 : k = 0
      · have hk0b : (((k : Int) == 0) && !false) = true := by rw [hk0]; simp
        have hk0z : ((k : Int) == 0) = true := by rw [hk0]; rfl
        clear hk0
        refine wp_region_held_drew (S := (fun u : World => u.cell? (ad.add k) = some (.int .u8 x) ∧ u.cell? ⟨M, 1, none⟩ = some (.int .i64 (N + (k : Int) + 1)))) (by kernel_rfl) (HSx.out _ HKd.out HTd.out.c1) (fun hHeld => ?_)
        generalize Wr.drew = V at *
        refine take_dst 0 (some 93) rfl rfl (by kernel_rfl) (by kernel_rfl) (by kernel_rfl) (fun _ _ _ h => h) (v := ?_) (Or.inl ⟨by rfl, ?_⟩) (by assumption) ?_
        rotate_left
        · (intro w hSw; (try dsimp only at hSw); go_simp; try with_reducible rfl)
        simp only [Act.put, List.setIfInBounds_toArray, List.set_cons_zero, List.set_cons_succ]
        refine take_dst 1 (some 94) rfl rfl (by kernel_rfl) (by kernel_rfl) (by kernel_rfl) (fun _ _ _ h => h) (v := ?_) (Or.inl ⟨by rfl, ?_⟩) (by assumption) ?_
        rotate_left
        · (intro w hSw; (try dsimp only at hSw); go_simp; try with_reducible rfl)
        simp only [Act.put, List.setIfInBounds_toArray, List.set_cons_zero, List.set_cons_succ]
        refine take_dst 2 (some 95) rfl rfl (by kernel_rfl) (by kernel_rfl) (by kernel_rfl) (fun _ _ _ h => h) (v := ?_) (Or.inl ⟨by rfl, ?_⟩) (by assumption) ?_
        rotate_left
        · (intro w hSw; (try dsimp only at hSw); go_simp; try with_reducible rfl)
        simp only [Act.put, List.setIfInBounds_toArray, List.set_cons_zero, List.set_cons_succ]
        refine take_dst 3 (some 96) rfl rfl (by kernel_rfl) (by kernel_rfl) (by kernel_rfl) (fun _ _ _ h => h) (v := ?_) (Or.inl ⟨by rfl, ?_⟩) (by assumption) ?_
        rotate_left
        · (intro w hSw; (try dsimp only at hSw); go_simp; try with_reducible rfl)
        simp only [Act.put, List.setIfInBounds_toArray, List.set_cons_zero, List.set_cons_succ]
        refine take_dst 4 (some 97) rfl rfl (by kernel_rfl) (by kernel_rfl) (by kernel_rfl) (fun _ _ _ h => h) (v := ?_) (Or.inl ⟨by rfl, ?_⟩) (by assumption) ?_
        rotate_left
        · (intro w hSw; (try dsimp only at hSw); go_simp; try with_reducible rfl)
        simp only [Act.put, List.setIfInBounds_toArray, List.set_cons_zero, List.set_cons_succ]
        refine take_dst 5 (some 98) rfl rfl (by kernel_rfl) (by kernel_rfl) (by kernel_rfl) (fun _ _ _ h => h) (v := ?_) (Or.inl ⟨by rfl, ?_⟩) (by assumption) ?_
        rotate_left
        · (intro w hSw; (try dsimp only at hSw); go_simp; try with_reducible rfl)
        simp only [Act.put, List.setIfInBounds_toArray, List.set_cons_zero, List.set_cons_succ]
        refine take_dst 6 (some 99) rfl rfl (by kernel_rfl) (by kernel_rfl) (by kernel_rfl) (fun _ _ _ h => h) (v := ?_) (Or.inl ⟨by rfl, ?_⟩) (by assumption) ?_
        rotate_left
        · (intro w hSw; (try dsimp only at hSw); go_simp; try with_reducible rfl)
        simp only [Act.put, List.setIfInBounds_toArray, List.set_cons_zero, List.set_cons_succ]
        refine take_dst 7 (some 100) rfl rfl (by kernel_rfl) (by kernel_rfl) (by kernel_rfl) (fun _ _ _ h => h) (v := ?_) (Or.inl ⟨by rfl, ?_⟩) (by assumption) ?_
        rotate_left
        · (intro w hSw; (try dsimp only at hSw); go_simp; try with_reducible rfl)
        simp only [Act.put, List.setIfInBounds_toArray, List.set_cons_zero, List.set_cons_succ]
        refine take_dst 8 (some 101) rfl rfl (by kernel_rfl) (by kernel_rfl) (by kernel_rfl) (fun _ _ _ h => h) (v := ?_) (Or.inl ⟨by rfl, ?_⟩) (by assumption) ?_
        rotate_left
        · (intro w hSw; (try dsimp only at hSw); go_simp; try with_reducible rfl)
        simp only [Act.put, List.setIfInBounds_toArray, List.set_cons_zero, List.set_cons_succ]
        refine take_dst 9 (some 102) rfl rfl (by kernel_rfl) (by kernel_rfl) (by kernel_rfl) (fun _ _ _ h => h) (v := ?_) (Or.inl ⟨by rfl, ?_⟩) (by assumption) ?_
        rotate_left
        · (intro w hSw; (try dsimp only at hSw); go_simp; try with_reducible rfl)
        simp only [Act.put, List.setIfInBounds_toArray, List.set_cons_zero, List.set_cons_succ]
        refine take_dst 10 (some 103) rfl rfl (by kernel_rfl) (by kernel_rfl) (by kernel_rfl) (fun _ _ _ h => h) (v := ?_) (Or.inl ⟨by rfl, ?_⟩) (by assumption) ?_
        rotate_left
        · (intro w hSw; (try dsimp only at hSw); go_simp; try with_reducible rfl)
        simp only [Act.put, List.setIfInBounds_toArray, List.set_cons_zero, List.set_cons_succ]
        refine take_dst 11 (some 104) rfl rfl (by kernel_rfl) (by kernel_rfl) (by kernel_rfl) (fun _ _ _ h => h) (v := ?_) (Or.inl ⟨by rfl, ?_⟩) (by assumption) ?_
        rotate_left
        · (intro w hSw; (try dsimp only at hSw); go_simp; try with_reducible rfl)
        simp only [Act.put, List.setIfInBounds_toArray, List.set_cons_zero, List.set_cons_succ]
        refine take_dst 12 (some 105) rfl rfl (by kernel_rfl) (by kernel_rfl) (by kernel_rfl) (fun _ _ _ h => h) (v := ?_) (Or.inl ⟨by rfl, ?_⟩) (by assumption) ?_
        rotate_left
        · (intro w hSw; (try dsimp only at hSw); go_simp; try with_reducible rfl)
        simp only [Act.put, List.setIfInBounds_toArray, List.set_cons_zero, List.set_cons_succ]
        refine take_dst 13 (some 106) rfl rfl (by kernel_rfl) (by kernel_rfl) (by kernel_rfl) (fun _ _ _ h => h) (v := ?_) (Or.inl ⟨by rfl, ?_⟩) (by assumption) ?_
        rotate_left
        · (intro w hSw; (try dsimp only at hSw); go_simp; try with_reducible rfl)
        simp only [Act.put, List.setIfInBounds_toArray, List.set_cons_zero, List.set_cons_succ]
        refine take_dst 14 (some 107) rfl rfl (by kernel_rfl) (by kernel_rfl) (by kernel_rfl) (fun _ _ _ h => h) (v := ?_) (Or.inl ⟨by rfl, ?_⟩) (by assumption) ?_
        rotate_left
        · (intro w hSw; (try dsimp only at hSw); go_simp; try with_reducible rfl)
        simp only [Act.put, List.setIfInBounds_toArray, List.set_cons_zero, List.set_cons_succ]
        refine take_dst 15 (some 108) rfl rfl (by kernel_rfl) (by kernel_rfl) (by kernel_rfl) (fun _ _ _ h => h) (v := ?_) (Or.inl ⟨by rfl, ?_⟩) (by assumption) ?_
        rotate_left
        · (intro w hSw; (try dsimp only at hSw); go_simp; try with_reducible rfl)
        simp only [Act.put, List.setIfInBounds_toArray, List.set_cons_zero, List.set_cons_succ]
        refine wpAnyH_ready (rs := [16]) (by kernel_rfl) (by simp) ?_
        refine AllReadyH.cons rfl (fun K hK => ?_) AllReadyH.nil
        go_simp
        have hgA := grownBy_alloc V (.cells #[.int .u8 x, .int .i64 (N + (k : Int) + 1), .bool true] 83)
        have HTA := hidden (HTd.out.grown hgA)
        have HKA := hidden (HKd.out.trans (O' := ROwn M (.slice (some ⟨g, 0, none⟩) s vc)) (kept_none hgA) (fun _ _ h => h))
        have HRA := hidden (HRd.out.kept hgA (by cases Value.ownBlock (.slice va3 (at' + k) vc3) <;> simp))
        have hVb : b ≤ (V.alloc (.cells #[.int .u8 x, .int .i64 (N + (k : Int) + 1), .bool true] 83)).heap.size := by rw [← Hb.out]; exact HKA.out.size
        refine hK.out _ _ (HSx.out _ HKA.out HTA.out.c1) (fun hHeld1 => ?_)
        clear hK K hHeld hgA
        refine wpAnyH_ready (rs := [17]) (by kernel_rfl) (by simp) ?_
        refine AllReadyH.cons rfl (fun K hK => ?_) AllReadyH.nil
        refine step_append_at rfl (.tmp 93) (.tmp 109) 36 rfl b 83 i0 (.agg #[.int .u8 0, .int .i64 0, .bool false]) 3 24 Try.underlying36 hi hz0 hz1 hz2 rfl (by decide) (.slice va3 (at' + k) vc3) (at' + k) _ (by simp [Act.eval]) HRA.out ⟨V.heap.size, 0, none⟩ 1 1 [.int .u8 x, .int .i64 (N + (k : Int) + 1), .bool true] (by simp [Act.eval]) rfl (cells3 _ _ _ _) (by intro u hu; simp at hu; rcases hu with rfl | rfl | rfl <;> rfl) (by unfold maxLen; omega) (by omega) hVb (by decide) ?_
        intro v' w2 hr2 hg2
        obtain ⟨va4, vc4, rfl⟩ := own_any_slice hr2.out
        obtain ⟨q0, q1⟩ := HTA.out.kept1 HKA.out Hb.out.symm HV3.out HLV.out hMw (Rl.refl _) hg2.out
        have q2 : Hid (w2.ownsRow b 83 3 (.slice va4 (at' + k + 1) vc4) (at' + (k + 1)) (rowC (cz.take at' ++ comeC (l.take (k + 1)) N false))) := by rw [HN.out, hk0b]; exact hr2.out
        clear hr2 hg2
        refine hK.out _ _ (HSx.out _ q1.out q0.out.c1) (fun hHeld2 => ?_)
        clear hK K hHeld1
        refine take_dst 18 (some 8) rfl rfl (by kernel_rfl) (by kernel_rfl) (by kernel_rfl) (fun _ _ _ h => h) (v := ?_) (Or.inl ⟨by rfl, ?_⟩) (by assumption) ?_
        rotate_left
        · (intro w hSw; (try dsimp only at hSw); go_simp; try with_reducible rfl)
        simp only [Act.put, List.setIfInBounds_toArray]
        refine wpAnyH_done (by kernel_rfl) ?_ _
        clear hHeld2 HSx HTA HKA HRA HTd HKd HRd
        go_wp2
        go_roundw
        case rel => exact ⟨k + 1, by omega, by go_num, q2.out, by push_cast; rw [← Int.add_assoc]; exact q0.out, q1.out⟩
        case measure => simp [intOf]; omega
      · have hk0b : (((k : Int) == 0) && !false) = false := by rw [show ((k : Int) == 0) = false from by simp; omega]; rfl
        have hk0z : ((k : Int) == 0) = false := by simp; omega
        have hk0y : ¬ ((k : Int) = 0) := by omega
        clear hk0
        refine wp_region_held_drew (S := (fun u : World => u.cell? (ad.add k) = some (.int .u8 x) ∧ u.cell? ⟨M, 1, none⟩ = some (.int .i64 (N + (k : Int) + 1)))) (by kernel_rfl) (HSx.out _ HKd.out HTd.out.c1) (fun hHeld => ?_)
        generalize Wr.drew = V at *
        refine take_dst 0 (some 93) rfl rfl (by kernel_rfl) (by kernel_rfl) (by kernel_rfl) (fun _ _ _ h => h) (v := ?_) (Or.inl ⟨by rfl, ?_⟩) (by assumption) ?_
        rotate_left
        · (intro w hSw; (try dsimp only at hSw); go_simp; try with_reducible rfl)
        simp only [Act.put, List.setIfInBounds_toArray, List.set_cons_zero, List.set_cons_succ]
        refine take_dst 1 (some 94) rfl rfl (by kernel_rfl) (by kernel_rfl) (by kernel_rfl) (fun _ _ _ h => h) (v := ?_) (Or.inl ⟨by rfl, ?_⟩) (by assumption) ?_
        rotate_left
        · (intro w hSw; (try dsimp only at hSw); go_simp; try with_reducible rfl)
        simp only [Act.put, List.setIfInBounds_toArray, List.set_cons_zero, List.set_cons_succ]
        refine take_dst 2 (some 95) rfl rfl (by kernel_rfl) (by kernel_rfl) (by kernel_rfl) (fun _ _ _ h => h) (v := ?_) (Or.inl ⟨by rfl, ?_⟩) (by assumption) ?_
        rotate_left
        · (intro w hSw; (try dsimp only at hSw); go_simp; try with_reducible rfl)
        simp only [Act.put, List.setIfInBounds_toArray, List.set_cons_zero, List.set_cons_succ]
        refine take_dst 3 (some 96) rfl rfl (by kernel_rfl) (by kernel_rfl) (by kernel_rfl) (fun _ _ _ h => h) (v := ?_) (Or.inl ⟨by rfl, ?_⟩) (by assumption) ?_
        rotate_left
        · (intro w hSw; (try dsimp only at hSw); go_simp; try with_reducible rfl)
        simp only [Act.put, List.setIfInBounds_toArray, List.set_cons_zero, List.set_cons_succ]
        refine take_dst 4 (some 97) rfl rfl (by kernel_rfl) (by kernel_rfl) (by kernel_rfl) (fun _ _ _ h => h) (v := ?_) (Or.inl ⟨by rfl, ?_⟩) (by assumption) ?_
        rotate_left
        · (intro w hSw; (try dsimp only at hSw); go_simp; try with_reducible rfl)
        simp only [Act.put, List.setIfInBounds_toArray, List.set_cons_zero, List.set_cons_succ]
        refine take_dst 5 (some 98) rfl rfl (by kernel_rfl) (by kernel_rfl) (by kernel_rfl) (fun _ _ _ h => h) (v := ?_) (Or.inl ⟨by rfl, ?_⟩) (by assumption) ?_
        rotate_left
        · (intro w hSw; (try dsimp only at hSw); go_simp; try with_reducible rfl)
        simp only [Act.put, List.setIfInBounds_toArray, List.set_cons_zero, List.set_cons_succ]
        refine take_dst 6 (some 99) rfl rfl (by kernel_rfl) (by kernel_rfl) (by kernel_rfl) (fun _ _ _ h => h) (v := ?_) (Or.inl ⟨by rfl, ?_⟩) (by assumption) ?_
        rotate_left
        · (intro w hSw; (try dsimp only at hSw); go_simp; try with_reducible rfl)
        simp only [Act.put, List.setIfInBounds_toArray, List.set_cons_zero, List.set_cons_succ]
        refine take_dst 7 (some 100) rfl rfl (by kernel_rfl) (by kernel_rfl) (by kernel_rfl) (fun _ _ _ h => h) (v := ?_) (Or.inl ⟨by rfl, ?_⟩) (by assumption) ?_
        rotate_left
        · (intro w hSw; (try dsimp only at hSw); go_simp; try with_reducible rfl)
        simp only [Act.put, List.setIfInBounds_toArray, List.set_cons_zero, List.set_cons_succ]
        refine take_dst 8 (some 101) rfl rfl (by kernel_rfl) (by kernel_rfl) (by kernel_rfl) (fun _ _ _ h => h) (v := ?_) (Or.inl ⟨by rfl, ?_⟩) (by assumption) ?_
        rotate_left
        · (intro w hSw; (try dsimp only at hSw); go_simp; try with_reducible rfl)
        simp only [Act.put, List.setIfInBounds_toArray, List.set_cons_zero, List.set_cons_succ]
        refine take_dst 9 (some 102) rfl rfl (by kernel_rfl) (by kernel_rfl) (by kernel_rfl) (fun _ _ _ h => h) (v := ?_) (Or.inl ⟨by rfl, ?_⟩) (by assumption) ?_
        rotate_left
        · (intro w hSw; (try dsimp only at hSw); go_simp; try with_reducible rfl)
        simp only [Act.put, List.setIfInBounds_toArray, List.set_cons_zero, List.set_cons_succ]
        refine take_dst 10 (some 103) rfl rfl (by kernel_rfl) (by kernel_rfl) (by kernel_rfl) (fun _ _ _ h => h) (v := ?_) (Or.inl ⟨by rfl, ?_⟩) (by assumption) ?_
        rotate_left
        · (intro w hSw; (try dsimp only at hSw); go_simp; try with_reducible rfl)
        simp only [Act.put, List.setIfInBounds_toArray, List.set_cons_zero, List.set_cons_succ]
        refine take_dst 11 (some 104) rfl rfl (by kernel_rfl) (by kernel_rfl) (by kernel_rfl) (fun _ _ _ h => h) (v := ?_) (Or.inl ⟨by rfl, ?_⟩) (by assumption) ?_
        rotate_left
        · (intro w hSw; (try dsimp only at hSw); go_simp; try with_reducible rfl)
        simp only [Act.put, List.setIfInBounds_toArray, List.set_cons_zero, List.set_cons_succ]
        refine take_dst 12 (some 105) rfl rfl (by kernel_rfl) (by kernel_rfl) (by kernel_rfl) (fun _ _ _ h => h) (v := undef) (Or.inr ⟨by rfl, rfl⟩) (by assumption) ?_
        simp only [Act.put, List.setIfInBounds_toArray, List.set_cons_zero, List.set_cons_succ]
        refine take_dst 13 (some 106) rfl rfl (by kernel_rfl) (by kernel_rfl) (by kernel_rfl) (fun _ _ _ h => h) (v := undef) (Or.inr ⟨by rfl, rfl⟩) (by assumption) ?_
        simp only [Act.put, List.setIfInBounds_toArray, List.set_cons_zero, List.set_cons_succ]
        refine take_dst 14 (some 107) rfl rfl (by kernel_rfl) (by kernel_rfl) (by kernel_rfl) (fun _ _ _ h => h) (v := ?_) (Or.inl ⟨by rfl, ?_⟩) (by assumption) ?_
        rotate_left
        · (intro w hSw; (try dsimp only at hSw); go_simp; try with_reducible rfl)
        simp only [Act.put, List.setIfInBounds_toArray, List.set_cons_zero, List.set_cons_succ]
        refine take_dst 15 (some 108) rfl rfl (by kernel_rfl) (by kernel_rfl) (by kernel_rfl) (fun _ _ _ h => h) (v := ?_) (Or.inl ⟨by rfl, ?_⟩) (by assumption) ?_
        rotate_left
        · (intro w hSw; (try dsimp only at hSw); go_simp; try with_reducible rfl)
        simp only [Act.put, List.setIfInBounds_toArray, List.set_cons_zero, List.set_cons_succ]
        refine wpAnyH_ready (rs := [16]) (by kernel_rfl) (by simp) ?_
        refine AllReadyH.cons rfl (fun K hK => ?_) AllReadyH.nil
        go_simp
        have hgA := grownBy_alloc V (.cells #[.int .u8 x, .int .i64 (N + (k : Int) + 1), .bool false] 83)
        have HTA := hidden (HTd.out.grown hgA)
        have HKA := hidden (HKd.out.trans (O' := ROwn M (.slice (some ⟨g, 0, none⟩) s vc)) (kept_none hgA) (fun _ _ h => h))
        have HRA := hidden (HRd.out.kept hgA (by cases Value.ownBlock (.slice va3 (at' + k) vc3) <;> simp))
        have hVb : b ≤ (V.alloc (.cells #[.int .u8 x, .int .i64 (N + (k : Int) + 1), .bool false] 83)).heap.size := by rw [← Hb.out]; exact HKA.out.size
        refine hK.out _ _ (HSx.out _ HKA.out HTA.out.c1) (fun hHeld1 => ?_)
        clear hK K hHeld hgA
        refine wpAnyH_ready (rs := [17]) (by kernel_rfl) (by simp) ?_
        refine AllReadyH.cons rfl (fun K hK => ?_) AllReadyH.nil
        refine step_append_at rfl (.tmp 93) (.tmp 109) 36 rfl b 83 i0 (.agg #[.int .u8 0, .int .i64 0, .bool false]) 3 24 Try.underlying36 hi hz0 hz1 hz2 rfl (by decide) (.slice va3 (at' + k) vc3) (at' + k) _ (by simp [Act.eval]) HRA.out ⟨V.heap.size, 0, none⟩ 1 1 [.int .u8 x, .int .i64 (N + (k : Int) + 1), .bool false] (by simp [Act.eval]) rfl (cells3 _ _ _ _) (by intro u hu; simp at hu; rcases hu with rfl | rfl | rfl <;> rfl) (by unfold maxLen; omega) (by omega) hVb (by decide) ?_
        intro v' w2 hr2 hg2
        obtain ⟨va4, vc4, rfl⟩ := own_any_slice hr2.out
        obtain ⟨q0, q1⟩ := HTA.out.kept1 HKA.out Hb.out.symm HV3.out HLV.out hMw (Rl.refl _) hg2.out
        have q2 : Hid (w2.ownsRow b 83 3 (.slice va4 (at' + k + 1) vc4) (at' + (k + 1)) (rowC (cz.take at' ++ comeC (l.take (k + 1)) N false))) := by rw [HN.out, hk0b]; exact hr2.out
        clear hr2 hg2
        refine hK.out _ _ (HSx.out _ q1.out q0.out.c1) (fun hHeld2 => ?_)
        clear hK K hHeld1
        refine take_dst 18 (some 8) rfl rfl (by kernel_rfl) (by kernel_rfl) (by kernel_rfl) (fun _ _ _ h => h) (v := ?_) (Or.inl ⟨by rfl, ?_⟩) (by assumption) ?_
        rotate_left
        · (intro w hSw; (try dsimp only at hSw); go_simp; try with_reducible rfl)
        simp only [Act.put, List.setIfInBounds_toArray]
        refine wpAnyH_done (by kernel_rfl) ?_ _
        clear hHeld2 HSx HTA HKA HRA HTd HKd HRd
        go_wp2
        go_roundw
        case rel => exact ⟨k + 1, by omega, by go_num, q2.out, by push_cast; rw [← Int.add_assoc]; exact q0.out, q1.out⟩
        case measure => simp [intOf]; omega
    · have hkz : ¬ ((k : Int) < (n : Int)) := by omega
      obtain rfl : k = n := by omega
      have hlk : l.take k = l := List.take_of_length_le (by rw [Hl.out]; exact Nat.le_refl _)
      rw [hlk] at hr
      have d0 := hT.c0
      have HTr := hidden hT
      have HKr := hidden hK
      have HRr := hidden hr
      have hwb : b ≤ wr.heap.size := by rw [← Hb.out]; exact hK.size
      have HLd : Hid ((rowC (cz.drop at')).length = (s - at') * 3) := by unfold Hid; rw [rowC_len, List.length_drop, Hl1.out]
      have HLs : Hid ((cz.take at' ++ comeC l N false).length + (cz.drop at').length = at' + k + (s - at')) := by unfold Hid; rw [List.length_append, comeC_len, List.length_take, List.length_drop, Hl1.out, Hl.out]; omega
      have HTl := hidden (hT.tailCells at' (by rw [Hl1.out]; omega))
      clear hr hT hK hlk
      have hce : ¬ (vc = at') := by omega
      have hcez : ¬ ((vc : Int) = (at' : Int)) := by omega
      go_wp2_with (at_builtin; refine wpList_append_own _ rfl _ _ 36 rfl b 83 i0 (.agg #[.int .u8 0, .int .i64 0, .bool false]) 3 24 Try.underlying36 hi hz0 hz1 hz2 rfl (by decide) _ _ _ rfl HRr.out ⟨g, at' * 3, none⟩ (s - at') (vc - at') (rowC (cz.drop at')) rfl HLd.out HTl.out (rowC_one _) ?e3 ?e4 hwb ?_)
      case e3 => unfold maxLen; omega
      case e4 => omega
      intro v2 w2 hr2 hg2 _
      obtain ⟨va2, vc2, rfl⟩ := own_any_slice hr2
      obtain ⟨q0, q1, q2, q3, q4⟩ := rdel_fin HTr.out (Rl.refl _) hg2 HV3.out hMw hr2 (by have := HLs.out; omega) hB HKr.out Hb.out.symm
      clear hr2 hg2 d0
      go_wp2
      go_ret
      exact ⟨rfl, _, q2.out, q3.out, q4.out⟩

set_option maxHeartbeats 4000000 in
theorem rins_lt_on (B M g vc : Nat) (cs : List Rc) (N : Int) (at' : Nat) (ad : Addr) (cap n : Nat) (l : List Nat) (w : World) (s : Nat) (h : RTab B w M (.slice (some ⟨g, 0, none⟩) s vc) cs N) (hs : cs.length = s) (hs2 : s + n ≤ 65536) (hat : at' ≤ s) (hB : B ≤ w.heap.size) (hvc : s ≤ vc) (hvm : vc ≤ 9223372036854775807)
    (hl : l.length = n) (hn : 0 < n) (hN : 0 ≤ N ∧ N ≤ 1000000000) (hc : ∀ j u, (bytesV l)[j]? = some u → w.cell? (ad.add j) = some u) (hout : ¬ ROwn M (.slice (some ⟨g, 0, none⟩) s vc) ad.block) (ha : at' < s) (h0 : 0 < at') (h00 : 0 < N) :
    Calls Try.prog 45 #[.pointer (some ⟨M, 0, none⟩), .int .i64 at', .slice (some ad) n cap] w fun e w' => e = .returned (.int .i64 0) ∧ ∃ lv', RTab B w' M lv' (rins cs at' l N) (N + (n : Int)) ∧ Kept (ROwn M (.slice (some ⟨g, 0, none⟩) s vc)) w w' ∧ (∀ k, lv'.ownBlock = some k → w.heap.size ≤ k) := by
  obtain ⟨i0, hi, hz0, hz1, hz2⟩ := info_parts info59
  have HG : Hid (∀ k, k < n → ∃ x : Nat, l[k]? = some x ∧ ∀ wr, Kept (ROwn M (.slice (some ⟨g, 0, none⟩) s vc)) w wr → wr.cell? (ad.add k) = some (.int .u8 x)) := fun k hk => by
    have hk' : k < l.length := by omega
    refine ⟨l[k], List.getElem?_eq_getElem hk', fun wr hb => ?_⟩
    have h2 := hc k _ (show (bytesV l)[k]? = some (.int .u8 (l[k] : Nat)) by simp [bytesV, List.getElem?_eq_getElem hk'])
    have hbk : (ad.add k).block = ad.block := by unfold Addr.add; split <;> rfl
    have h3 := hb.block (ad.add k).block (World.block_lt_of_cell? _ _ h2) (by rw [hbk]; exact hout)
    rw [← h2]
    simp only [World.cell?, h3]
  have c0 := h.c0
  have c1 := h.c1
  have HT := hidden h
  have Hs := hidden hs
  have Hl := hidden hl
  have h1 : ¬ ((s : Int) < (at' : Int)) := by omega
  have h2 : ¬ (65536 < (s : Int) + (n : Int)) := by omega
  have h3 : ¬ ((n : Int) = 0) := by omega
  have hw1 : IntKind.i64.wrap ((s : Int) + (n : Int)) = (s : Int) + (n : Int) := IntWalk.i64_in _ (by omega)
  clear h hs hl hc
  have haz : (at' : Int) < (s : Int) := by omega
  obtain ⟨HT1, HK1, x0, x1⟩ := HT.out.firstAt Hs.out at' ha
  have hl1 : (setF cs at').length = s := by rw [setF_len]; exact Hs.out
  have e0 := HT1.out.c0
  have e1 := HT1.out.c1
  have ha0z : 0 < (at' : Int) := by omega
  obtain ⟨m, hm⟩ : ∃ m : Nat, (at' : Int) - 1 = (m : Int) := ⟨at' - 1, by omega⟩
  have hm1 : m < s := by omega
  have hm1z : (m : Int) < (s : Int) := by omega
  have hm2 : IntKind.i64.wrap (m : Int) = (m : Int) := IntWalk.i64_in _ (by omega)
  obtain ⟨pm, hpm⟩ : ∃ pm, (setF cs at')[m]? = some pm := ⟨_, List.getElem?_eq_getElem (by rw [setF_len, Hs.out]; exact hm1)⟩
  obtain ⟨g', eg, _, p1, _⟩ := RTab.part (show RTab B _ M (.slice (some ⟨g, 0, none⟩) (setF cs at').length vc) (setF cs at') N by rw [hl1]; exact HT1.out) m pm hpm
  obtain rfl : g = g' := by simpa using eg
  obtain ⟨k1, hk1⟩ : ∃ k1, pm.n = k1 := ⟨_, rfl⟩
  rw [hk1] at p1
  obtain ⟨on, hon⟩ : ∃ on, (k1 == N) = on := ⟨_, rfl⟩
  have Hon : Hid (onOf (setF cs at') at' N = on) := by
    unfold Hid onOf
    rw [decide_eq_true ⟨h0, h00⟩, show at' - 1 = m by omega, hpm, Bool.true_and, ← hon, ← hk1]
    rfl
  clear hpm hk1 eg
  have Hl1 := hidden hl1
  clear hl1
  unfold rins
  rw [Hon.out]
  generalize hcz : setF cs at' = cz at *
  have hMw := HT.out.lt
  obtain ⟨b, hb⟩ : ∃ b, w.heap.size = b := ⟨_, rfl⟩
  have Hb := hidden hb
  have HLV : Hid (∀ j, Value.ownBlock (.slice (some ⟨g, 0, none⟩) s vc) = some j → j < b) := fun j hj => by rw [← hb]; exact (HT.out.row.lt j hj).2
  rw [hb] at hMw hB
  clear hb hcz Hon
  go_enter Try.func45, Try.ntmps45
  go_wp2_with (at_builtin; fail)
  generalize (w.setCell ⟨g, at' * 3 + 2, none⟩ (.bool true)) = W at *
  clear x0 x1 c0 c1
  go_quiet (fail)
  go_wp2_with (at_builtin; refine wpList_append_own _ rfl _ _ 36 rfl b 83 i0 (.agg #[.int .u8 0, .int .i64 0, .bool false]) 3 24 Try.underlying36 hi hz0 hz1 hz2 rfl (by decide) _ _ _ rfl (World.ownsRow_nil _ _ _ _) ⟨g, 0, none⟩ at' vc (rowC (cz.take at')) rfl ?d0 (HT1.out.headCells at') (rowC_one _) ?d3 ?d4 ?d5 ?_)
  case d0 => rw [rowC_len, List.length_take, Hl1.out, Nat.min_eq_left (by omega)]
  case d3 => unfold maxLen; omega
  case d4 => omega
  case d5 => rw [← Hb.out]; exact HK1.out.size
  intro v1 w1 hr1 hg1 _
  have hg1 : W.grownBy w1 none := ⟨hg1.os, hg1.tape, hg1.output, hg1.size, fun k hk hne => hg1.block k hk hne⟩
  have HT2 := hidden (HT1.out.grown hg1)
  have HK2 := hidden (HK1.out.trans (O' := ROwn M (.slice (some ⟨g, 0, none⟩) s vc)) (kept_none hg1) (fun _ _ h => h))
  have hr1' : w1.ownsRow b 83 3 v1 at' (rowC (cz.take at')) := by simpa using hr1
  have HR2 := hidden hr1'
  clear hr1 hr1' hg1 e0 e1 p1
  go_wp2_with fail
  go_loopw [8, 9] (fun v j wr => ∃ k : Nat, k ≤ n ∧ j = .int .i64 (k : Nat) ∧ wr.ownsRow b 83 3 v (at' + k) (rowC (cz.take at' ++ comeC (l.take k) N on)) ∧ RTab B wr M (.slice (some ⟨g, 0, none⟩) s vc) cz (N + (k : Int)) ∧ Kept (ROwn M (.slice (some ⟨g, 0, none⟩) s vc)) w wr) (fun _ j _ => n - (intOf j).toNat)
  case atStart => exact ⟨0, Nat.zero_le _, rfl, by simpa [comeC] using HR2.out, by simpa using HT2.out, HK2.out⟩
  case round =>
    obtain ⟨k, hk, rfl, hr, hT, hK⟩ := hrel
    obtain ⟨va3, vc3, hv3⟩ := own_any_slice hr
    subst hv3
    have HV3 : Hid (∀ j, Value.ownBlock (.slice va3 (at' + k) vc3) = some j → b ≤ j) := fun j hj => (hr.lt j hj).1
    by_cases hlt : k < n
    · obtain ⟨x, hx, hcx⟩ := HG.out k hlt
      have d0 := hT.c0
      have d1 := hT.c1
      have d2 := hT.fz 1
      have hkz : (k : Int) < (n : Int) := by omega
      have hw3 : IntKind.i64.wrap (N + (k : Int) + 1) = N + (k : Int) + 1 := IntWalk.i64_in _ (by omega)
      have HN := hidden (come_next (cz := cz) (at' := at') (N := N) (on := on) hx Hl.out hlt)
      have HRs : Hid ((wr.setCell ⟨M, 1, none⟩ (.int .i64 (N + (k : Int) + 1))).ownsRow b 83 3 (.slice va3 (at' + k) vc3) (at' + k) (rowC (cz.take at' ++ comeC (l.take k) N on))) := hr.kept (grownBy_set wr M 1 _) (Or.inr (fun e => by have := HV3.out M e; omega))
      have HTs := hidden (hT.num (N + (k : Int) + 1))
      have HKs := hidden (hK.trans (kept_some (grownBy_set wr M 1 (.int .i64 (N + (k : Int) + 1))) (O := ROwn M (.slice (some ⟨g, 0, none⟩) s vc)) (Or.inl rfl)) (fun _ _ h => h))
      have Hcx := hidden hcx
      clear hr hT hK hcx hx
      go_wp2_with fail
      generalize (wr.setCell ⟨M, 1, none⟩ (.int .i64 (N + (k : Int) + 1))) = Wr at *
      clear d0 d1 d2
      have hgd := grown_drew' Wr
      have HTd := hidden (HTs.out.grown hgd)
      have HKd := hidden (HKs.out.trans (O' := ROwn M (.slice (some ⟨g, 0, none⟩) s vc)) (kept_none hgd) (fun _ _ h => h))
      have HRd : Hid (Wr.drew.ownsRow b 83 3 (.slice va3 (at' + k) vc3) (at' + k) (rowC (cz.take at' ++ comeC (l.take k) N on))) := HRs.out
      clear hgd HTs HKs HRs
      have HSx : Hid (∀ u, Kept (ROwn M (.slice (some ⟨g, 0, none⟩) s vc)) w u → u.cell? ⟨M, 1, none⟩ = some (.int .i64 (N + (k : Int) + 1)) → (fun u : World => u.cell? (ad.add k) = some (.int .u8 x) ∧ u.cell? ⟨M, 1, none⟩ = some (.int .i64 (N + (k : Int) + 1))) u) := fun u hu hm => ⟨Hcx.out u hu, hm⟩
      by_cases hk0 : k = 0
      · have hk0b : (((k : Int) == 0) && !on) = (!on) := by rw [hk0]; simp
        have hk0z : ((k : Int) == 0) = true := by rw [hk0]; rfl
        clear hk0
        refine wp_region_held_drew (S := (fun u : World => u.cell? (ad.add k) = some (.int .u8 x) ∧ u.cell? ⟨M, 1, none⟩ = some (.int .i64 (N + (k : Int) + 1)))) (by kernel_rfl) (HSx.out _ HKd.out HTd.out.c1) (fun hHeld => ?_)
        generalize Wr.drew = V at *
        refine take_dst 0 (some 93) rfl rfl (by kernel_rfl) (by kernel_rfl) (by kernel_rfl) (fun _ _ _ h => h) (v := ?_) (Or.inl ⟨by rfl, ?_⟩) (by assumption) ?_
        rotate_left
        · (intro w hSw; (try dsimp only at hSw); go_simp; try with_reducible rfl)
        simp only [Act.put, List.setIfInBounds_toArray, List.set_cons_zero, List.set_cons_succ]
        refine take_dst 1 (some 94) rfl rfl (by kernel_rfl) (by kernel_rfl) (by kernel_rfl) (fun _ _ _ h => h) (v := ?_) (Or.inl ⟨by rfl, ?_⟩) (by assumption) ?_
        rotate_left
        · (intro w hSw; (try dsimp only at hSw); go_simp; try with_reducible rfl)
        simp only [Act.put, List.setIfInBounds_toArray, List.set_cons_zero, List.set_cons_succ]
        refine take_dst 2 (some 95) rfl rfl (by kernel_rfl) (by kernel_rfl) (by kernel_rfl) (fun _ _ _ h => h) (v := ?_) (Or.inl ⟨by rfl, ?_⟩) (by assumption) ?_
        rotate_left
        · (intro w hSw; (try dsimp only at hSw); go_simp; try with_reducible rfl)
        simp only [Act.put, List.setIfInBounds_toArray, List.set_cons_zero, List.set_cons_succ]
        refine take_dst 3 (some 96) rfl rfl (by kernel_rfl) (by kernel_rfl) (by kernel_rfl) (fun _ _ _ h => h) (v := ?_) (Or.inl ⟨by rfl, ?_⟩) (by assumption) ?_
        rotate_left
        · (intro w hSw; (try dsimp only at hSw); go_simp; try with_reducible rfl)
        simp only [Act.put, List.setIfInBounds_toArray, List.set_cons_zero, List.set_cons_succ]
        refine take_dst 4 (some 97) rfl rfl (by kernel_rfl) (by kernel_rfl) (by kernel_rfl) (fun _ _ _ h => h) (v := ?_) (Or.inl ⟨by rfl, ?_⟩) (by assumption) ?_
        rotate_left
        · (intro w hSw; (try dsimp only at hSw); go_simp; try with_reducible rfl)
        simp only [Act.put, List.setIfInBounds_toArray, List.set_cons_zero, List.set_cons_succ]
        refine take_dst 5 (some 98) rfl rfl (by kernel_rfl) (by kernel_rfl) (by kernel_rfl) (fun _ _ _ h => h) (v := ?_) (Or.inl ⟨by rfl, ?_⟩) (by assumption) ?_
        rotate_left
        · (intro w hSw; (try dsimp only at hSw); go_simp; try with_reducible rfl)
        simp only [Act.put, List.setIfInBounds_toArray, List.set_cons_zero, List.set_cons_succ]
        refine take_dst 6 (some 99) rfl rfl (by kernel_rfl) (by kernel_rfl) (by kernel_rfl) (fun _ _ _ h => h) (v := ?_) (Or.inl ⟨by rfl, ?_⟩) (by assumption) ?_
        rotate_left
        · (intro w hSw; (try dsimp only at hSw); go_simp; try with_reducible rfl)
        simp only [Act.put, List.setIfInBounds_toArray, List.set_cons_zero, List.set_cons_succ]
        refine take_dst 7 (some 100) rfl rfl (by kernel_rfl) (by kernel_rfl) (by kernel_rfl) (fun _ _ _ h => h) (v := ?_) (Or.inl ⟨by rfl, ?_⟩) (by assumption) ?_
        rotate_left
        · (intro w hSw; (try dsimp only at hSw); go_simp; try with_reducible rfl)
        simp only [Act.put, List.setIfInBounds_toArray, List.set_cons_zero, List.set_cons_succ]
        refine take_dst 8 (some 101) rfl rfl (by kernel_rfl) (by kernel_rfl) (by kernel_rfl) (fun _ _ _ h => h) (v := ?_) (Or.inl ⟨by rfl, ?_⟩) (by assumption) ?_
        rotate_left
        · (intro w hSw; (try dsimp only at hSw); go_simp; try with_reducible rfl)
        simp only [Act.put, List.setIfInBounds_toArray, List.set_cons_zero, List.set_cons_succ]
        refine take_dst 9 (some 102) rfl rfl (by kernel_rfl) (by kernel_rfl) (by kernel_rfl) (fun _ _ _ h => h) (v := ?_) (Or.inl ⟨by rfl, ?_⟩) (by assumption) ?_
        rotate_left
        · (intro w hSw; (try dsimp only at hSw); go_simp; try with_reducible rfl)
        simp only [Act.put, List.setIfInBounds_toArray, List.set_cons_zero, List.set_cons_succ]
        refine take_dst 10 (some 103) rfl rfl (by kernel_rfl) (by kernel_rfl) (by kernel_rfl) (fun _ _ _ h => h) (v := ?_) (Or.inl ⟨by rfl, ?_⟩) (by assumption) ?_
        rotate_left
        · (intro w hSw; (try dsimp only at hSw); go_simp; try with_reducible rfl)
        simp only [Act.put, List.setIfInBounds_toArray, List.set_cons_zero, List.set_cons_succ]
        refine take_dst 11 (some 104) rfl rfl (by kernel_rfl) (by kernel_rfl) (by kernel_rfl) (fun _ _ _ h => h) (v := ?_) (Or.inl ⟨by rfl, ?_⟩) (by assumption) ?_
        rotate_left
        · (intro w hSw; (try dsimp only at hSw); go_simp; try with_reducible rfl)
        simp only [Act.put, List.setIfInBounds_toArray, List.set_cons_zero, List.set_cons_succ]
        refine take_dst 12 (some 105) rfl rfl (by kernel_rfl) (by kernel_rfl) (by kernel_rfl) (fun _ _ _ h => h) (v := ?_) (Or.inl ⟨by rfl, ?_⟩) (by assumption) ?_
        rotate_left
        · (intro w hSw; (try dsimp only at hSw); go_simp; try with_reducible rfl)
        simp only [Act.put, List.setIfInBounds_toArray, List.set_cons_zero, List.set_cons_succ]
        refine take_dst 13 (some 106) rfl rfl (by kernel_rfl) (by kernel_rfl) (by kernel_rfl) (fun _ _ _ h => h) (v := ?_) (Or.inl ⟨by rfl, ?_⟩) (by assumption) ?_
        rotate_left
        · (intro w hSw; (try dsimp only at hSw); go_simp; try with_reducible rfl)
        simp only [Act.put, List.setIfInBounds_toArray, List.set_cons_zero, List.set_cons_succ]
        refine take_dst 14 (some 107) rfl rfl (by kernel_rfl) (by kernel_rfl) (by kernel_rfl) (fun _ _ _ h => h) (v := ?_) (Or.inl ⟨by rfl, ?_⟩) (by assumption) ?_
        rotate_left
        · (intro w hSw; (try dsimp only at hSw); go_simp; try with_reducible rfl)
        simp only [Act.put, List.setIfInBounds_toArray, List.set_cons_zero, List.set_cons_succ]
        refine take_dst 15 (some 108) rfl rfl (by kernel_rfl) (by kernel_rfl) (by kernel_rfl) (fun _ _ _ h => h) (v := ?_) (Or.inl ⟨by rfl, ?_⟩) (by assumption) ?_
        rotate_left
        · (intro w hSw; (try dsimp only at hSw); go_simp; try with_reducible rfl)
        simp only [Act.put, List.setIfInBounds_toArray, List.set_cons_zero, List.set_cons_succ]
        refine wpAnyH_ready (rs := [16]) (by kernel_rfl) (by simp) ?_
        refine AllReadyH.cons rfl (fun K hK => ?_) AllReadyH.nil
        go_simp
        have hgA := grownBy_alloc V (.cells #[.int .u8 x, .int .i64 (N + (k : Int) + 1), .bool (!on)] 83)
        have HTA := hidden (HTd.out.grown hgA)
        have HKA := hidden (HKd.out.trans (O' := ROwn M (.slice (some ⟨g, 0, none⟩) s vc)) (kept_none hgA) (fun _ _ h => h))
        have HRA := hidden (HRd.out.kept hgA (by cases Value.ownBlock (.slice va3 (at' + k) vc3) <;> simp))
        have hVb : b ≤ (V.alloc (.cells #[.int .u8 x, .int .i64 (N + (k : Int) + 1), .bool (!on)] 83)).heap.size := by rw [← Hb.out]; exact HKA.out.size
        refine hK.out _ _ (HSx.out _ HKA.out HTA.out.c1) (fun hHeld1 => ?_)
        clear hK K hHeld hgA
        refine wpAnyH_ready (rs := [17]) (by kernel_rfl) (by simp) ?_
        refine AllReadyH.cons rfl (fun K hK => ?_) AllReadyH.nil
        refine step_append_at rfl (.tmp 93) (.tmp 109) 36 rfl b 83 i0 (.agg #[.int .u8 0, .int .i64 0, .bool false]) 3 24 Try.underlying36 hi hz0 hz1 hz2 rfl (by decide) (.slice va3 (at' + k) vc3) (at' + k) _ (by simp [Act.eval]) HRA.out ⟨V.heap.size, 0, none⟩ 1 1 [.int .u8 x, .int .i64 (N + (k : Int) + 1), .bool (!on)] (by simp [Act.eval]) rfl (cells3 _ _ _ _) (by intro u hu; simp at hu; rcases hu with rfl | rfl | rfl <;> rfl) (by unfold maxLen; omega) (by omega) hVb (by decide) ?_
        intro v' w2 hr2 hg2
        obtain ⟨va4, vc4, rfl⟩ := own_any_slice hr2.out
        obtain ⟨q0, q1⟩ := HTA.out.kept1 HKA.out Hb.out.symm HV3.out HLV.out hMw (Rl.refl _) hg2.out
        have q2 : Hid (w2.ownsRow b 83 3 (.slice va4 (at' + k + 1) vc4) (at' + (k + 1)) (rowC (cz.take at' ++ comeC (l.take (k + 1)) N on))) := by rw [HN.out, hk0b]; exact hr2.out
        clear hr2 hg2
        refine hK.out _ _ (HSx.out _ q1.out q0.out.c1) (fun hHeld2 => ?_)
        clear hK K hHeld1
        refine take_dst 18 (some 8) rfl rfl (by kernel_rfl) (by kernel_rfl) (by kernel_rfl) (fun _ _ _ h => h) (v := ?_) (Or.inl ⟨by rfl, ?_⟩) (by assumption) ?_
        rotate_left
        · (intro w hSw; (try dsimp only at hSw); go_simp; try with_reducible rfl)
        simp only [Act.put, List.setIfInBounds_toArray]
        refine wpAnyH_done (by kernel_rfl) ?_ _
        clear hHeld2 HSx HTA HKA HRA HTd HKd HRd
        go_wp2
        go_roundw
        case rel => exact ⟨k + 1, by omega, by go_num, q2.out, by push_cast; rw [← Int.add_assoc]; exact q0.out, q1.out⟩
        case measure => simp [intOf]; omega
      · have hk0b : (((k : Int) == 0) && !on) = false := by rw [show ((k : Int) == 0) = false from by simp; omega]; rfl
        have hk0z : ((k : Int) == 0) = false := by simp; omega
        have hk0y : ¬ ((k : Int) = 0) := by omega
        clear hk0
        refine wp_region_held_drew (S := (fun u : World => u.cell? (ad.add k) = some (.int .u8 x) ∧ u.cell? ⟨M, 1, none⟩ = some (.int .i64 (N + (k : Int) + 1)))) (by kernel_rfl) (HSx.out _ HKd.out HTd.out.c1) (fun hHeld => ?_)
        generalize Wr.drew = V at *
        refine take_dst 0 (some 93) rfl rfl (by kernel_rfl) (by kernel_rfl) (by kernel_rfl) (fun _ _ _ h => h) (v := ?_) (Or.inl ⟨by rfl, ?_⟩) (by assumption) ?_
        rotate_left
        · (intro w hSw; (try dsimp only at hSw); go_simp; try with_reducible rfl)
        simp only [Act.put, List.setIfInBounds_toArray, List.set_cons_zero, List.set_cons_succ]
        refine take_dst 1 (some 94) rfl rfl (by kernel_rfl) (by kernel_rfl) (by kernel_rfl) (fun _ _ _ h => h) (v := ?_) (Or.inl ⟨by rfl, ?_⟩) (by assumption) ?_
        rotate_left
        · (intro w hSw; (try dsimp only at hSw); go_simp; try with_reducible rfl)
        simp only [Act.put, List.setIfInBounds_toArray, List.set_cons_zero, List.set_cons_succ]
        refine take_dst 2 (some 95) rfl rfl (by kernel_rfl) (by kernel_rfl) (by kernel_rfl) (fun _ _ _ h => h) (v := ?_) (Or.inl ⟨by rfl, ?_⟩) (by assumption) ?_
        rotate_left
        · (intro w hSw; (try dsimp only at hSw); go_simp; try with_reducible rfl)
        simp only [Act.put, List.setIfInBounds_toArray, List.set_cons_zero, List.set_cons_succ]
        refine take_dst 3 (some 96) rfl rfl (by kernel_rfl) (by kernel_rfl) (by kernel_rfl) (fun _ _ _ h => h) (v := ?_) (Or.inl ⟨by rfl, ?_⟩) (by assumption) ?_
        rotate_left
        · (intro w hSw; (try dsimp only at hSw); go_simp; try with_reducible rfl)
        simp only [Act.put, List.setIfInBounds_toArray, List.set_cons_zero, List.set_cons_succ]
        refine take_dst 4 (some 97) rfl rfl (by kernel_rfl) (by kernel_rfl) (by kernel_rfl) (fun _ _ _ h => h) (v := ?_) (Or.inl ⟨by rfl, ?_⟩) (by assumption) ?_
        rotate_left
        · (intro w hSw; (try dsimp only at hSw); go_simp; try with_reducible rfl)
        simp only [Act.put, List.setIfInBounds_toArray, List.set_cons_zero, List.set_cons_succ]
        refine take_dst 5 (some 98) rfl rfl (by kernel_rfl) (by kernel_rfl) (by kernel_rfl) (fun _ _ _ h => h) (v := ?_) (Or.inl ⟨by rfl, ?_⟩) (by assumption) ?_
        rotate_left
        · (intro w hSw; (try dsimp only at hSw); go_simp; try with_reducible rfl)
        simp only [Act.put, List.setIfInBounds_toArray, List.set_cons_zero, List.set_cons_succ]
        refine take_dst 6 (some 99) rfl rfl (by kernel_rfl) (by kernel_rfl) (by kernel_rfl) (fun _ _ _ h => h) (v := ?_) (Or.inl ⟨by rfl, ?_⟩) (by assumption) ?_
        rotate_left
        · (intro w hSw; (try dsimp only at hSw); go_simp; try with_reducible rfl)
        simp only [Act.put, List.setIfInBounds_toArray, List.set_cons_zero, List.set_cons_succ]
        refine take_dst 7 (some 100) rfl rfl (by kernel_rfl) (by kernel_rfl) (by kernel_rfl) (fun _ _ _ h => h) (v := ?_) (Or.inl ⟨by rfl, ?_⟩) (by assumption) ?_
        rotate_left
        · (intro w hSw; (try dsimp only at hSw); go_simp; try with_reducible rfl)
        simp only [Act.put, List.setIfInBounds_toArray, List.set_cons_zero, List.set_cons_succ]
        refine take_dst 8 (some 101) rfl rfl (by kernel_rfl) (by kernel_rfl) (by kernel_rfl) (fun _ _ _ h => h) (v := ?_) (Or.inl ⟨by rfl, ?_⟩) (by assumption) ?_
        rotate_left
        · (intro w hSw; (try dsimp only at hSw); go_simp; try with_reducible rfl)
        simp only [Act.put, List.setIfInBounds_toArray, List.set_cons_zero, List.set_cons_succ]
        refine take_dst 9 (some 102) rfl rfl (by kernel_rfl) (by kernel_rfl) (by kernel_rfl) (fun _ _ _ h => h) (v := ?_) (Or.inl ⟨by rfl, ?_⟩) (by assumption) ?_
        rotate_left
        · (intro w hSw; (try dsimp only at hSw); go_simp; try with_reducible rfl)
        simp only [Act.put, List.setIfInBounds_toArray, List.set_cons_zero, List.set_cons_succ]
        refine take_dst 10 (some 103) rfl rfl (by kernel_rfl) (by kernel_rfl) (by kernel_rfl) (fun _ _ _ h => h) (v := ?_) (Or.inl ⟨by rfl, ?_⟩) (by assumption) ?_
        rotate_left
        · (intro w hSw; (try dsimp only at hSw); go_simp; try with_reducible rfl)
        simp only [Act.put, List.setIfInBounds_toArray, List.set_cons_zero, List.set_cons_succ]
        refine take_dst 11 (some 104) rfl rfl (by kernel_rfl) (by kernel_rfl) (by kernel_rfl) (fun _ _ _ h => h) (v := ?_) (Or.inl ⟨by rfl, ?_⟩) (by assumption) ?_
        rotate_left
        · (intro w hSw; (try dsimp only at hSw); go_simp; try with_reducible rfl)
        simp only [Act.put, List.setIfInBounds_toArray, List.set_cons_zero, List.set_cons_succ]
        refine take_dst 12 (some 105) rfl rfl (by kernel_rfl) (by kernel_rfl) (by kernel_rfl) (fun _ _ _ h => h) (v := undef) (Or.inr ⟨by rfl, rfl⟩) (by assumption) ?_
        simp only [Act.put, List.setIfInBounds_toArray, List.set_cons_zero, List.set_cons_succ]
        refine take_dst 13 (some 106) rfl rfl (by kernel_rfl) (by kernel_rfl) (by kernel_rfl) (fun _ _ _ h => h) (v := undef) (Or.inr ⟨by rfl, rfl⟩) (by assumption) ?_
        simp only [Act.put, List.setIfInBounds_toArray, List.set_cons_zero, List.set_cons_succ]
        refine take_dst 14 (some 107) rfl rfl (by kernel_rfl) (by kernel_rfl) (by kernel_rfl) (fun _ _ _ h => h) (v := ?_) (Or.inl ⟨by rfl, ?_⟩) (by assumption) ?_
        rotate_left
        · (intro w hSw; (try dsimp only at hSw); go_simp; try with_reducible rfl)
        simp only [Act.put, List.setIfInBounds_toArray, List.set_cons_zero, List.set_cons_succ]
        refine take_dst 15 (some 108) rfl rfl (by kernel_rfl) (by kernel_rfl) (by kernel_rfl) (fun _ _ _ h => h) (v := ?_) (Or.inl ⟨by rfl, ?_⟩) (by assumption) ?_
        rotate_left
        · (intro w hSw; (try dsimp only at hSw); go_simp; try with_reducible rfl)
        simp only [Act.put, List.setIfInBounds_toArray, List.set_cons_zero, List.set_cons_succ]
        refine wpAnyH_ready (rs := [16]) (by kernel_rfl) (by simp) ?_
        refine AllReadyH.cons rfl (fun K hK => ?_) AllReadyH.nil
        go_simp
        have hgA := grownBy_alloc V (.cells #[.int .u8 x, .int .i64 (N + (k : Int) + 1), .bool false] 83)
        have HTA := hidden (HTd.out.grown hgA)
        have HKA := hidden (HKd.out.trans (O' := ROwn M (.slice (some ⟨g, 0, none⟩) s vc)) (kept_none hgA) (fun _ _ h => h))
        have HRA := hidden (HRd.out.kept hgA (by cases Value.ownBlock (.slice va3 (at' + k) vc3) <;> simp))
        have hVb : b ≤ (V.alloc (.cells #[.int .u8 x, .int .i64 (N + (k : Int) + 1), .bool false] 83)).heap.size := by rw [← Hb.out]; exact HKA.out.size
        refine hK.out _ _ (HSx.out _ HKA.out HTA.out.c1) (fun hHeld1 => ?_)
        clear hK K hHeld hgA
        refine wpAnyH_ready (rs := [17]) (by kernel_rfl) (by simp) ?_
        refine AllReadyH.cons rfl (fun K hK => ?_) AllReadyH.nil
        refine step_append_at rfl (.tmp 93) (.tmp 109) 36 rfl b 83 i0 (.agg #[.int .u8 0, .int .i64 0, .bool false]) 3 24 Try.underlying36 hi hz0 hz1 hz2 rfl (by decide) (.slice va3 (at' + k) vc3) (at' + k) _ (by simp [Act.eval]) HRA.out ⟨V.heap.size, 0, none⟩ 1 1 [.int .u8 x, .int .i64 (N + (k : Int) + 1), .bool false] (by simp [Act.eval]) rfl (cells3 _ _ _ _) (by intro u hu; simp at hu; rcases hu with rfl | rfl | rfl <;> rfl) (by unfold maxLen; omega) (by omega) hVb (by decide) ?_
        intro v' w2 hr2 hg2
        obtain ⟨va4, vc4, rfl⟩ := own_any_slice hr2.out
        obtain ⟨q0, q1⟩ := HTA.out.kept1 HKA.out Hb.out.symm HV3.out HLV.out hMw (Rl.refl _) hg2.out
        have q2 : Hid (w2.ownsRow b 83 3 (.slice va4 (at' + k + 1) vc4) (at' + (k + 1)) (rowC (cz.take at' ++ comeC (l.take (k + 1)) N on))) := by rw [HN.out, hk0b]; exact hr2.out
        clear hr2 hg2
        refine hK.out _ _ (HSx.out _ q1.out q0.out.c1) (fun hHeld2 => ?_)
        clear hK K hHeld1
        refine take_dst 18 (some 8) rfl rfl (by kernel_rfl) (by kernel_rfl) (by kernel_rfl) (fun _ _ _ h => h) (v := ?_) (Or.inl ⟨by rfl, ?_⟩) (by assumption) ?_
        rotate_left
        · (intro w hSw; (try dsimp only at hSw); go_simp; try with_reducible rfl)
        simp only [Act.put, List.setIfInBounds_toArray]
        refine wpAnyH_done (by kernel_rfl) ?_ _
        clear hHeld2 HSx HTA HKA HRA HTd HKd HRd
        go_wp2
        go_roundw
        case rel => exact ⟨k + 1, by omega, by go_num, q2.out, by push_cast; rw [← Int.add_assoc]; exact q0.out, q1.out⟩
        case measure => simp [intOf]; omega
    · have hkz : ¬ ((k : Int) < (n : Int)) := by omega
      obtain rfl : k = n := by omega
      have hlk : l.take k = l := List.take_of_length_le (by rw [Hl.out]; exact Nat.le_refl _)
      rw [hlk] at hr
      have d0 := hT.c0
      have HTr := hidden hT
      have HKr := hidden hK
      have HRr := hidden hr
      have hwb : b ≤ wr.heap.size := by rw [← Hb.out]; exact hK.size
      have HLd : Hid ((rowC (cz.drop at')).length = (s - at') * 3) := by unfold Hid; rw [rowC_len, List.length_drop, Hl1.out]
      have HLs : Hid ((cz.take at' ++ comeC l N on).length + (cz.drop at').length = at' + k + (s - at')) := by unfold Hid; rw [List.length_append, comeC_len, List.length_take, List.length_drop, Hl1.out, Hl.out]; omega
      have HTl := hidden (hT.tailCells at' (by rw [Hl1.out]; omega))
      clear hr hT hK hlk
      have hce : ¬ (vc = at') := by omega
      have hcez : ¬ ((vc : Int) = (at' : Int)) := by omega
      go_wp2_with (at_builtin; refine wpList_append_own _ rfl _ _ 36 rfl b 83 i0 (.agg #[.int .u8 0, .int .i64 0, .bool false]) 3 24 Try.underlying36 hi hz0 hz1 hz2 rfl (by decide) _ _ _ rfl HRr.out ⟨g, at' * 3, none⟩ (s - at') (vc - at') (rowC (cz.drop at')) rfl HLd.out HTl.out (rowC_one _) ?e3 ?e4 hwb ?_)
      case e3 => unfold maxLen; omega
      case e4 => omega
      intro v2 w2 hr2 hg2 _
      obtain ⟨va2, vc2, rfl⟩ := own_any_slice hr2
      obtain ⟨q0, q1, q2, q3, q4⟩ := rdel_fin HTr.out (Rl.refl _) hg2 HV3.out hMw hr2 (by have := HLs.out; omega) hB HKr.out Hb.out.symm
      clear hr2 hg2 d0
      go_wp2
      go_ret
      exact ⟨rfl, _, q2.out, q3.out, q4.out⟩

set_option maxHeartbeats 4000000 in
theorem rins_eq_n0 (B M g vc : Nat) (cs : List Rc) (N : Int) (at' : Nat) (ad : Addr) (cap n : Nat) (l : List Nat) (w : World) (h : RTab B w M (.slice (some ⟨g, 0, none⟩) at' vc) cs N) (hs : cs.length = at') (hs2 : at' + n ≤ 65536) (hB : B ≤ w.heap.size) (hvc : at' ≤ vc) (hvm : vc ≤ 9223372036854775807)
    (hl : l.length = n) (hn : 0 < n) (hN : 0 ≤ N ∧ N ≤ 1000000000) (hc : ∀ j u, (bytesV l)[j]? = some u → w.cell? (ad.add j) = some u) (hout : ¬ ROwn M (.slice (some ⟨g, 0, none⟩) at' vc) ad.block) (h0 : 0 < at') (h00 : N ≤ 0) :
    Calls Try.prog 45 #[.pointer (some ⟨M, 0, none⟩), .int .i64 at', .slice (some ad) n cap] w fun e w' => e = .returned (.int .i64 0) ∧ ∃ lv', RTab B w' M lv' (rins cs at' l N) (N + (n : Int)) ∧ Kept (ROwn M (.slice (some ⟨g, 0, none⟩) at' vc)) w w' ∧ (∀ k, lv'.ownBlock = some k → w.heap.size ≤ k) := by
  obtain ⟨i0, hi, hz0, hz1, hz2⟩ := info_parts info59
  have HG : Hid (∀ k, k < n → ∃ x : Nat, l[k]? = some x ∧ ∀ wr, Kept (ROwn M (.slice (some ⟨g, 0, none⟩) at' vc)) w wr → wr.cell? (ad.add k) = some (.int .u8 x)) := fun k hk => by
    have hk' : k < l.length := by omega
    refine ⟨l[k], List.getElem?_eq_getElem hk', fun wr hb => ?_⟩
    have h2 := hc k _ (show (bytesV l)[k]? = some (.int .u8 (l[k] : Nat)) by simp [bytesV, List.getElem?_eq_getElem hk'])
    have hbk : (ad.add k).block = ad.block := by unfold Addr.add; split <;> rfl
    have h3 := hb.block (ad.add k).block (World.block_lt_of_cell? _ _ h2) (by rw [hbk]; exact hout)
    rw [← h2]
    simp only [World.cell?, h3]
  have c0 := h.c0
  have c1 := h.c1
  have HT := hidden h
  have Hs := hidden hs
  have Hl := hidden hl
  have h2 : ¬ (65536 < (at' : Int) + (n : Int)) := by omega
  have h3 : ¬ ((n : Int) = 0) := by omega
  have hw1 : IntKind.i64.wrap ((at' : Int) + (n : Int)) = (at' : Int) + (n : Int) := IntWalk.i64_in _ (by omega)
  clear h hs hl hc
  have HT1 : Hid (RTab B w M (.slice (some ⟨g, 0, none⟩) at' vc) (setF cs at') N) := by rw [setF_out cs at' (by rw [Hs.out]; omega)]; exact HT.out
  have HK1 : Hid (Kept (ROwn M (.slice (some ⟨g, 0, none⟩) at' vc)) w w) := Kept.refl _ _
  have hl1 : (setF cs at').length = at' := by rw [setF_len]; exact Hs.out
  have e0 := HT1.out.c0
  have e1 := HT1.out.c1
  have ha0z : 0 < (at' : Int) := by omega
  have Hon : Hid (onOf (setF cs at') at' N = false) := by unfold Hid onOf; rw [decide_eq_false (by omega)]; rfl
  obtain ⟨on, hon⟩ : ∃ on, on = false := ⟨_, rfl⟩
  rw [← hon] at Hon
  have Hl1 := hidden hl1
  clear hl1
  unfold rins
  rw [Hon.out]
  generalize hcz : setF cs at' = cz at *
  have hMw := HT.out.lt
  obtain ⟨b, hb⟩ : ∃ b, w.heap.size = b := ⟨_, rfl⟩
  have Hb := hidden hb
  have HLV : Hid (∀ j, Value.ownBlock (.slice (some ⟨g, 0, none⟩) at' vc) = some j → j < b) := fun j hj => by rw [← hb]; exact (HT.out.row.lt j hj).2
  rw [hb] at hMw hB
  clear hb hcz Hon
  go_enter Try.func45, Try.ntmps45
  go_wp2_with (at_builtin; fail)
  obtain ⟨W, hW⟩ : ∃ W, w = W := ⟨_, rfl⟩
  rw [hW] at HT1 e0 e1 ⊢
  have HK1' : Hid (Kept (ROwn M (.slice (some ⟨g, 0, none⟩) at' vc)) w W) := by rw [← hW]; exact HK1.out
  clear HK1
  have HK1 := HK1'
  clear HK1' c0 c1 hW
  have hN0z : ¬ (0 < N) := by omega
  have hN0d : decide (0 < N) = false := decide_eq_false hN0z
  go_quiet (fail)
  subst hon
  go_wp2_with (at_builtin; refine wpList_append_own _ rfl _ _ 36 rfl b 83 i0 (.agg #[.int .u8 0, .int .i64 0, .bool false]) 3 24 Try.underlying36 hi hz0 hz1 hz2 rfl (by decide) _ _ _ rfl (World.ownsRow_nil _ _ _ _) ⟨g, 0, none⟩ at' vc (rowC (cz.take at')) rfl ?d0 (HT1.out.headCells at') (rowC_one _) ?d3 ?d4 ?d5 ?_)
  case d0 => rw [rowC_len, List.length_take, Hl1.out, Nat.min_eq_left (by omega)]
  case d3 => unfold maxLen; omega
  case d4 => omega
  case d5 => rw [← Hb.out]; exact HK1.out.size
  intro v1 w1 hr1 hg1 _
  have hg1 : W.grownBy w1 none := ⟨hg1.os, hg1.tape, hg1.output, hg1.size, fun k hk hne => hg1.block k hk hne⟩
  have HT2 := hidden (HT1.out.grown hg1)
  have HK2 := hidden (HK1.out.trans (O' := ROwn M (.slice (some ⟨g, 0, none⟩) at' vc)) (kept_none hg1) (fun _ _ h => h))
  have hr1' : w1.ownsRow b 83 3 v1 at' (rowC (cz.take at')) := by simpa using hr1
  have HR2 := hidden hr1'
  clear hr1 hr1' hg1 e0 e1
  go_wp2_with fail
  go_loopw [8, 9] (fun v j wr => ∃ k : Nat, k ≤ n ∧ j = .int .i64 (k : Nat) ∧ wr.ownsRow b 83 3 v (at' + k) (rowC (cz.take at' ++ comeC (l.take k) N false)) ∧ RTab B wr M (.slice (some ⟨g, 0, none⟩) at' vc) cz (N + (k : Int)) ∧ Kept (ROwn M (.slice (some ⟨g, 0, none⟩) at' vc)) w wr) (fun _ j _ => n - (intOf j).toNat)
  case atStart => exact ⟨0, Nat.zero_le _, rfl, by simpa [comeC] using HR2.out, by simpa using HT2.out, HK2.out⟩
  case round =>
    obtain ⟨k, hk, rfl, hr, hT, hK⟩ := hrel
    obtain ⟨va3, vc3, hv3⟩ := own_any_slice hr
    subst hv3
    have HV3 : Hid (∀ j, Value.ownBlock (.slice va3 (at' + k) vc3) = some j → b ≤ j) := fun j hj => (hr.lt j hj).1
    by_cases hlt : k < n
    · obtain ⟨x, hx, hcx⟩ := HG.out k hlt
      have d0 := hT.c0
      have d1 := hT.c1
      have d2 := hT.fz 1
      have hkz : (k : Int) < (n : Int) := by omega
      have hw3 : IntKind.i64.wrap (N + (k : Int) + 1) = N + (k : Int) + 1 := IntWalk.i64_in _ (by omega)
      have HN := hidden (come_next (cz := cz) (at' := at') (N := N) (on := false) hx Hl.out hlt)
      have HRs : Hid ((wr.setCell ⟨M, 1, none⟩ (.int .i64 (N + (k : Int) + 1))).ownsRow b 83 3 (.slice va3 (at' + k) vc3) (at' + k) (rowC (cz.take at' ++ comeC (l.take k) N false))) := hr.kept (grownBy_set wr M 1 _) (Or.inr (fun e => by have := HV3.out M e; omega))
      have HTs := hidden (hT.num (N + (k : Int) + 1))
      have HKs := hidden (hK.trans (kept_some (grownBy_set wr M 1 (.int .i64 (N + (k : Int) + 1))) (O := ROwn M (.slice (some ⟨g, 0, none⟩) at' vc)) (Or.inl rfl)) (fun _ _ h => h))
      have Hcx := hidden hcx
      clear hr hT hK hcx hx
      go_wp2_with fail
      generalize (wr.setCell ⟨M, 1, none⟩ (.int .i64 (N + (k : Int) + 1))) = Wr at *
      clear d0 d1 d2
      have hgd := grown_drew' Wr
      have HTd := hidden (HTs.out.grown hgd)
      have HKd := hidden (HKs.out.trans (O' := ROwn M (.slice (some ⟨g, 0, none⟩) at' vc)) (kept_none hgd) (fun _ _ h => h))
      have HRd : Hid (Wr.drew.ownsRow b 83 3 (.slice va3 (at' + k) vc3) (at' + k) (rowC (cz.take at' ++ comeC (l.take k) N false))) := HRs.out
      clear hgd HTs HKs HRs
      have HSx : Hid (∀ u, Kept (ROwn M (.slice (some ⟨g, 0, none⟩) at' vc)) w u → u.cell? ⟨M, 1, none⟩ = some (.int .i64 (N + (k : Int) + 1)) → (fun u : World => u.cell? (ad.add k) = some (.int .u8 x) ∧ u.cell? ⟨M, 1, none⟩ = some (.int .i64 (N + (k : Int) + 1))) u) := fun u hu hm => ⟨Hcx.out u hu, hm⟩
      by_cases hk0 : k = 0
      · have hk0b : (((k : Int) == 0) && !false) = true := by rw [hk0]; simp
        have hk0z : ((k : Int) == 0) = true := by rw [hk0]; rfl
        clear hk0
        refine wp_region_held_drew (S := (fun u : World => u.cell? (ad.add k) = some (.int .u8 x) ∧ u.cell? ⟨M, 1, none⟩ = some (.int .i64 (N + (k : Int) + 1)))) (by kernel_rfl) (HSx.out _ HKd.out HTd.out.c1) (fun hHeld => ?_)
        generalize Wr.drew = V at *
        refine take_dst 0 (some 93) rfl rfl (by kernel_rfl) (by kernel_rfl) (by kernel_rfl) (fun _ _ _ h => h) (v := ?_) (Or.inl ⟨by rfl, ?_⟩) (by assumption) ?_
        rotate_left
        · (intro w hSw; (try dsimp only at hSw); go_simp; try with_reducible rfl)
        simp only [Act.put, List.setIfInBounds_toArray, List.set_cons_zero, List.set_cons_succ]
        refine take_dst 1 (some 94) rfl rfl (by kernel_rfl) (by kernel_rfl) (by kernel_rfl) (fun _ _ _ h => h) (v := ?_) (Or.inl ⟨by rfl, ?_⟩) (by assumption) ?_
        rotate_left
        · (intro w hSw; (try dsimp only at hSw); go_simp; try with_reducible rfl)
        simp only [Act.put, List.setIfInBounds_toArray, List.set_cons_zero, List.set_cons_succ]
        refine take_dst 2 (some 95) rfl rfl (by kernel_rfl) (by kernel_rfl) (by kernel_rfl) (fun _ _ _ h => h) (v := ?_) (Or.inl ⟨by rfl, ?_⟩) (by assumption) ?_
        rotate_left
        · (intro w hSw; (try dsimp only at hSw); go_simp; try with_reducible rfl)
        simp only [Act.put, List.setIfInBounds_toArray, List.set_cons_zero, List.set_cons_succ]
        refine take_dst 3 (some 96) rfl rfl (by kernel_rfl) (by kernel_rfl) (by kernel_rfl) (fun _ _ _ h => h) (v := ?_) (Or.inl ⟨by rfl, ?_⟩) (by assumption) ?_
        rotate_left
        · (intro w hSw; (try dsimp only at hSw); go_simp; try with_reducible rfl)
        simp only [Act.put, List.setIfInBounds_toArray, List.set_cons_zero, List.set_cons_succ]
        refine take_dst 4 (some 97) rfl rfl (by kernel_rfl) (by kernel_rfl) (by kernel_rfl) (fun _ _ _ h => h) (v := ?_) (Or.inl ⟨by rfl, ?_⟩) (by assumption) ?_
        rotate_left
        · (intro w hSw; (try dsimp only at hSw); go_simp; try with_reducible rfl)
        simp only [Act.put, List.setIfInBounds_toArray, List.set_cons_zero, List.set_cons_succ]
        refine take_dst 5 (some 98) rfl rfl (by kernel_rfl) (by kernel_rfl) (by kernel_rfl) (fun _ _ _ h => h) (v := ?_) (Or.inl ⟨by rfl, ?_⟩) (by assumption) ?_
        rotate_left
        · (intro w hSw; (try dsimp only at hSw); go_simp; try with_reducible rfl)
        simp only [Act.put, List.setIfInBounds_toArray, List.set_cons_zero, List.set_cons_succ]
        refine take_dst 6 (some 99) rfl rfl (by kernel_rfl) (by kernel_rfl) (by kernel_rfl) (fun _ _ _ h => h) (v := ?_) (Or.inl ⟨by rfl, ?_⟩) (by assumption) ?_
        rotate_left
        · (intro w hSw; (try dsimp only at hSw); go_simp; try with_reducible rfl)
        simp only [Act.put, List.setIfInBounds_toArray, List.set_cons_zero, List.set_cons_succ]
        refine take_dst 7 (some 100) rfl rfl (by kernel_rfl) (by kernel_rfl) (by kernel_rfl) (fun _ _ _ h => h) (v := ?_) (Or.inl ⟨by rfl, ?_⟩) (by assumption) ?_
        rotate_left
        · (intro w hSw; (try dsimp only at hSw); go_simp; try with_reducible rfl)
        simp only [Act.put, List.setIfInBounds_toArray, List.set_cons_zero, List.set_cons_succ]
        refine take_dst 8 (some 101) rfl rfl (by kernel_rfl) (by kernel_rfl) (by kernel_rfl) (fun _ _ _ h => h) (v := ?_) (Or.inl ⟨by rfl, ?_⟩) (by assumption) ?_
        rotate_left
        · (intro w hSw; (try dsimp only at hSw); go_simp; try with_reducible rfl)
        simp only [Act.put, List.setIfInBounds_toArray, List.set_cons_zero, List.set_cons_succ]
        refine take_dst 9 (some 102) rfl rfl (by kernel_rfl) (by kernel_rfl) (by kernel_rfl) (fun _ _ _ h => h) (v := ?_) (Or.inl ⟨by rfl, ?_⟩) (by assumption) ?_
        rotate_left
        · (intro w hSw; (try dsimp only at hSw); go_simp; try with_reducible rfl)
        simp only [Act.put, List.setIfInBounds_toArray, List.set_cons_zero, List.set_cons_succ]
        refine take_dst 10 (some 103) rfl rfl (by kernel_rfl) (by kernel_rfl) (by kernel_rfl) (fun _ _ _ h => h) (v := ?_) (Or.inl ⟨by rfl, ?_⟩) (by assumption) ?_
        rotate_left
        · (intro w hSw; (try dsimp only at hSw); go_simp; try with_reducible rfl)
        simp only [Act.put, List.setIfInBounds_toArray, List.set_cons_zero, List.set_cons_succ]
        refine take_dst 11 (some 104) rfl rfl (by kernel_rfl) (by kernel_rfl) (by kernel_rfl) (fun _ _ _ h => h) (v := ?_) (Or.inl ⟨by rfl, ?_⟩) (by assumption) ?_
        rotate_left
        · (intro w hSw; (try dsimp only at hSw); go_simp; try with_reducible rfl)
        simp only [Act.put, List.setIfInBounds_toArray, List.set_cons_zero, List.set_cons_succ]
        refine take_dst 12 (some 105) rfl rfl (by kernel_rfl) (by kernel_rfl) (by kernel_rfl) (fun _ _ _ h => h) (v := ?_) (Or.inl ⟨by rfl, ?_⟩) (by assumption) ?_
        rotate_left
        · (intro w hSw; (try dsimp only at hSw); go_simp; try with_reducible rfl)
        simp only [Act.put, List.setIfInBounds_toArray, List.set_cons_zero, List.set_cons_succ]
        refine take_dst 13 (some 106) rfl rfl (by kernel_rfl) (by kernel_rfl) (by kernel_rfl) (fun _ _ _ h => h) (v := ?_) (Or.inl ⟨by rfl, ?_⟩) (by assumption) ?_
        rotate_left
        · (intro w hSw; (try dsimp only at hSw); go_simp; try with_reducible rfl)
        simp only [Act.put, List.setIfInBounds_toArray, List.set_cons_zero, List.set_cons_succ]
        refine take_dst 14 (some 107) rfl rfl (by kernel_rfl) (by kernel_rfl) (by kernel_rfl) (fun _ _ _ h => h) (v := ?_) (Or.inl ⟨by rfl, ?_⟩) (by assumption) ?_
        rotate_left
        · (intro w hSw; (try dsimp only at hSw); go_simp; try with_reducible rfl)
        simp only [Act.put, List.setIfInBounds_toArray, List.set_cons_zero, List.set_cons_succ]
        refine take_dst 15 (some 108) rfl rfl (by kernel_rfl) (by kernel_rfl) (by kernel_rfl) (fun _ _ _ h => h) (v := ?_) (Or.inl ⟨by rfl, ?_⟩) (by assumption) ?_
        rotate_left
        · (intro w hSw; (try dsimp only at hSw); go_simp; try with_reducible rfl)
        simp only [Act.put, List.setIfInBounds_toArray, List.set_cons_zero, List.set_cons_succ]
        refine wpAnyH_ready (rs := [16]) (by kernel_rfl) (by simp) ?_
        refine AllReadyH.cons rfl (fun K hK => ?_) AllReadyH.nil
        go_simp
        have hgA := grownBy_alloc V (.cells #[.int .u8 x, .int .i64 (N + (k : Int) + 1), .bool true] 83)
        have HTA := hidden (HTd.out.grown hgA)
        have HKA := hidden (HKd.out.trans (O' := ROwn M (.slice (some ⟨g, 0, none⟩) at' vc)) (kept_none hgA) (fun _ _ h => h))
        have HRA := hidden (HRd.out.kept hgA (by cases Value.ownBlock (.slice va3 (at' + k) vc3) <;> simp))
        have hVb : b ≤ (V.alloc (.cells #[.int .u8 x, .int .i64 (N + (k : Int) + 1), .bool true] 83)).heap.size := by rw [← Hb.out]; exact HKA.out.size
        refine hK.out _ _ (HSx.out _ HKA.out HTA.out.c1) (fun hHeld1 => ?_)
        clear hK K hHeld hgA
        refine wpAnyH_ready (rs := [17]) (by kernel_rfl) (by simp) ?_
        refine AllReadyH.cons rfl (fun K hK => ?_) AllReadyH.nil
        refine step_append_at rfl (.tmp 93) (.tmp 109) 36 rfl b 83 i0 (.agg #[.int .u8 0, .int .i64 0, .bool false]) 3 24 Try.underlying36 hi hz0 hz1 hz2 rfl (by decide) (.slice va3 (at' + k) vc3) (at' + k) _ (by simp [Act.eval]) HRA.out ⟨V.heap.size, 0, none⟩ 1 1 [.int .u8 x, .int .i64 (N + (k : Int) + 1), .bool true] (by simp [Act.eval]) rfl (cells3 _ _ _ _) (by intro u hu; simp at hu; rcases hu with rfl | rfl | rfl <;> rfl) (by unfold maxLen; omega) (by omega) hVb (by decide) ?_
        intro v' w2 hr2 hg2
        obtain ⟨va4, vc4, rfl⟩ := own_any_slice hr2.out
        obtain ⟨q0, q1⟩ := HTA.out.kept1 HKA.out Hb.out.symm HV3.out HLV.out hMw (Rl.refl _) hg2.out
        have q2 : Hid (w2.ownsRow b 83 3 (.slice va4 (at' + k + 1) vc4) (at' + (k + 1)) (rowC (cz.take at' ++ comeC (l.take (k + 1)) N false))) := by rw [HN.out, hk0b]; exact hr2.out
        clear hr2 hg2
        refine hK.out _ _ (HSx.out _ q1.out q0.out.c1) (fun hHeld2 => ?_)
        clear hK K hHeld1
        refine take_dst 18 (some 8) rfl rfl (by kernel_rfl) (by kernel_rfl) (by kernel_rfl) (fun _ _ _ h => h) (v := ?_) (Or.inl ⟨by rfl, ?_⟩) (by assumption) ?_
        rotate_left
        · (intro w hSw; (try dsimp only at hSw); go_simp; try with_reducible rfl)
        simp only [Act.put, List.setIfInBounds_toArray]
        refine wpAnyH_done (by kernel_rfl) ?_ _
        clear hHeld2 HSx HTA HKA HRA HTd HKd HRd
        go_wp2
        go_roundw
        case rel => exact ⟨k + 1, by omega, by go_num, q2.out, by push_cast; rw [← Int.add_assoc]; exact q0.out, q1.out⟩
        case measure => simp [intOf]; omega
      · have hk0b : (((k : Int) == 0) && !false) = false := by rw [show ((k : Int) == 0) = false from by simp; omega]; rfl
        have hk0z : ((k : Int) == 0) = false := by simp; omega
        have hk0y : ¬ ((k : Int) = 0) := by omega
        clear hk0
        refine wp_region_held_drew (S := (fun u : World => u.cell? (ad.add k) = some (.int .u8 x) ∧ u.cell? ⟨M, 1, none⟩ = some (.int .i64 (N + (k : Int) + 1)))) (by kernel_rfl) (HSx.out _ HKd.out HTd.out.c1) (fun hHeld => ?_)
        generalize Wr.drew = V at *
        refine take_dst 0 (some 93) rfl rfl (by kernel_rfl) (by kernel_rfl) (by kernel_rfl) (fun _ _ _ h => h) (v := ?_) (Or.inl ⟨by rfl, ?_⟩) (by assumption) ?_
        rotate_left
        · (intro w hSw; (try dsimp only at hSw); go_simp; try with_reducible rfl)
        simp only [Act.put, List.setIfInBounds_toArray, List.set_cons_zero, List.set_cons_succ]
        refine take_dst 1 (some 94) rfl rfl (by kernel_rfl) (by kernel_rfl) (by kernel_rfl) (fun _ _ _ h => h) (v := ?_) (Or.inl ⟨by rfl, ?_⟩) (by assumption) ?_
        rotate_left
        · (intro w hSw; (try dsimp only at hSw); go_simp; try with_reducible rfl)
        simp only [Act.put, List.setIfInBounds_toArray, List.set_cons_zero, List.set_cons_succ]
        refine take_dst 2 (some 95) rfl rfl (by kernel_rfl) (by kernel_rfl) (by kernel_rfl) (fun _ _ _ h => h) (v := ?_) (Or.inl ⟨by rfl, ?_⟩) (by assumption) ?_
        rotate_left
        · (intro w hSw; (try dsimp only at hSw); go_simp; try with_reducible rfl)
        simp only [Act.put, List.setIfInBounds_toArray, List.set_cons_zero, List.set_cons_succ]
        refine take_dst 3 (some 96) rfl rfl (by kernel_rfl) (by kernel_rfl) (by kernel_rfl) (fun _ _ _ h => h) (v := ?_) (Or.inl ⟨by rfl, ?_⟩) (by assumption) ?_
        rotate_left
        · (intro w hSw; (try dsimp only at hSw); go_simp; try with_reducible rfl)
        simp only [Act.put, List.setIfInBounds_toArray, List.set_cons_zero, List.set_cons_succ]
        refine take_dst 4 (some 97) rfl rfl (by kernel_rfl) (by kernel_rfl) (by kernel_rfl) (fun _ _ _ h => h) (v := ?_) (Or.inl ⟨by rfl, ?_⟩) (by assumption) ?_
        rotate_left
        · (intro w hSw; (try dsimp only at hSw); go_simp; try with_reducible rfl)
        simp only [Act.put, List.setIfInBounds_toArray, List.set_cons_zero, List.set_cons_succ]
        refine take_dst 5 (some 98) rfl rfl (by kernel_rfl) (by kernel_rfl) (by kernel_rfl) (fun _ _ _ h => h) (v := ?_) (Or.inl ⟨by rfl, ?_⟩) (by assumption) ?_
        rotate_left
        · (intro w hSw; (try dsimp only at hSw); go_simp; try with_reducible rfl)
        simp only [Act.put, List.setIfInBounds_toArray, List.set_cons_zero, List.set_cons_succ]
        refine take_dst 6 (some 99) rfl rfl (by kernel_rfl) (by kernel_rfl) (by kernel_rfl) (fun _ _ _ h => h) (v := ?_) (Or.inl ⟨by rfl, ?_⟩) (by assumption) ?_
        rotate_left
        · (intro w hSw; (try dsimp only at hSw); go_simp; try with_reducible rfl)
        simp only [Act.put, List.setIfInBounds_toArray, List.set_cons_zero, List.set_cons_succ]
        refine take_dst 7 (some 100) rfl rfl (by kernel_rfl) (by kernel_rfl) (by kernel_rfl) (fun _ _ _ h => h) (v := ?_) (Or.inl ⟨by rfl, ?_⟩) (by assumption) ?_
        rotate_left
        · (intro w hSw; (try dsimp only at hSw); go_simp; try with_reducible rfl)
        simp only [Act.put, List.setIfInBounds_toArray, List.set_cons_zero, List.set_cons_succ]
        refine take_dst 8 (some 101) rfl rfl (by kernel_rfl) (by kernel_rfl) (by kernel_rfl) (fun _ _ _ h => h) (v := ?_) (Or.inl ⟨by rfl, ?_⟩) (by assumption) ?_
        rotate_left
        · (intro w hSw; (try dsimp only at hSw); go_simp; try with_reducible rfl)
        simp only [Act.put, List.setIfInBounds_toArray, List.set_cons_zero, List.set_cons_succ]
        refine take_dst 9 (some 102) rfl rfl (by kernel_rfl) (by kernel_rfl) (by kernel_rfl) (fun _ _ _ h => h) (v := ?_) (Or.inl ⟨by rfl, ?_⟩) (by assumption) ?_
        rotate_left
        · (intro w hSw; (try dsimp only at hSw); go_simp; try with_reducible rfl)
        simp only [Act.put, List.setIfInBounds_toArray, List.set_cons_zero, List.set_cons_succ]
        refine take_dst 10 (some 103) rfl rfl (by kernel_rfl) (by kernel_rfl) (by kernel_rfl) (fun _ _ _ h => h) (v := ?_) (Or.inl ⟨by rfl, ?_⟩) (by assumption) ?_
        rotate_left
        · (intro w hSw; (try dsimp only at hSw); go_simp; try with_reducible rfl)
        simp only [Act.put, List.setIfInBounds_toArray, List.set_cons_zero, List.set_cons_succ]
        refine take_dst 11 (some 104) rfl rfl (by kernel_rfl) (by kernel_rfl) (by kernel_rfl) (fun _ _ _ h => h) (v := ?_) (Or.inl ⟨by rfl, ?_⟩) (by assumption) ?_
        rotate_left
        · (intro w hSw; (try dsimp only at hSw); go_simp; try with_reducible rfl)
        simp only [Act.put, List.setIfInBounds_toArray, List.set_cons_zero, List.set_cons_succ]
        refine take_dst 12 (some 105) rfl rfl (by kernel_rfl) (by kernel_rfl) (by kernel_rfl) (fun _ _ _ h => h) (v := undef) (Or.inr ⟨by rfl, rfl⟩) (by assumption) ?_
        simp only [Act.put, List.setIfInBounds_toArray, List.set_cons_zero, List.set_cons_succ]
        refine take_dst 13 (some 106) rfl rfl (by kernel_rfl) (by kernel_rfl) (by kernel_rfl) (fun _ _ _ h => h) (v := undef) (Or.inr ⟨by rfl, rfl⟩) (by assumption) ?_
        simp only [Act.put, List.setIfInBounds_toArray, List.set_cons_zero, List.set_cons_succ]
        refine take_dst 14 (some 107) rfl rfl (by kernel_rfl) (by kernel_rfl) (by kernel_rfl) (fun _ _ _ h => h) (v := ?_) (Or.inl ⟨by rfl, ?_⟩) (by assumption) ?_
        rotate_left
        · (intro w hSw; (try dsimp only at hSw); go_simp; try with_reducible rfl)
        simp only [Act.put, List.setIfInBounds_toArray, List.set_cons_zero, List.set_cons_succ]
        refine take_dst 15 (some 108) rfl rfl (by kernel_rfl) (by kernel_rfl) (by kernel_rfl) (fun _ _ _ h => h) (v := ?_) (Or.inl ⟨by rfl, ?_⟩) (by assumption) ?_
        rotate_left
        · (intro w hSw; (try dsimp only at hSw); go_simp; try with_reducible rfl)
        simp only [Act.put, List.setIfInBounds_toArray, List.set_cons_zero, List.set_cons_succ]
        refine wpAnyH_ready (rs := [16]) (by kernel_rfl) (by simp) ?_
        refine AllReadyH.cons rfl (fun K hK => ?_) AllReadyH.nil
        go_simp
        have hgA := grownBy_alloc V (.cells #[.int .u8 x, .int .i64 (N + (k : Int) + 1), .bool false] 83)
        have HTA := hidden (HTd.out.grown hgA)
        have HKA := hidden (HKd.out.trans (O' := ROwn M (.slice (some ⟨g, 0, none⟩) at' vc)) (kept_none hgA) (fun _ _ h => h))
        have HRA := hidden (HRd.out.kept hgA (by cases Value.ownBlock (.slice va3 (at' + k) vc3) <;> simp))
        have hVb : b ≤ (V.alloc (.cells #[.int .u8 x, .int .i64 (N + (k : Int) + 1), .bool false] 83)).heap.size := by rw [← Hb.out]; exact HKA.out.size
        refine hK.out _ _ (HSx.out _ HKA.out HTA.out.c1) (fun hHeld1 => ?_)
        clear hK K hHeld hgA
        refine wpAnyH_ready (rs := [17]) (by kernel_rfl) (by simp) ?_
        refine AllReadyH.cons rfl (fun K hK => ?_) AllReadyH.nil
        refine step_append_at rfl (.tmp 93) (.tmp 109) 36 rfl b 83 i0 (.agg #[.int .u8 0, .int .i64 0, .bool false]) 3 24 Try.underlying36 hi hz0 hz1 hz2 rfl (by decide) (.slice va3 (at' + k) vc3) (at' + k) _ (by simp [Act.eval]) HRA.out ⟨V.heap.size, 0, none⟩ 1 1 [.int .u8 x, .int .i64 (N + (k : Int) + 1), .bool false] (by simp [Act.eval]) rfl (cells3 _ _ _ _) (by intro u hu; simp at hu; rcases hu with rfl | rfl | rfl <;> rfl) (by unfold maxLen; omega) (by omega) hVb (by decide) ?_
        intro v' w2 hr2 hg2
        obtain ⟨va4, vc4, rfl⟩ := own_any_slice hr2.out
        obtain ⟨q0, q1⟩ := HTA.out.kept1 HKA.out Hb.out.symm HV3.out HLV.out hMw (Rl.refl _) hg2.out
        have q2 : Hid (w2.ownsRow b 83 3 (.slice va4 (at' + k + 1) vc4) (at' + (k + 1)) (rowC (cz.take at' ++ comeC (l.take (k + 1)) N false))) := by rw [HN.out, hk0b]; exact hr2.out
        clear hr2 hg2
        refine hK.out _ _ (HSx.out _ q1.out q0.out.c1) (fun hHeld2 => ?_)
        clear hK K hHeld1
        refine take_dst 18 (some 8) rfl rfl (by kernel_rfl) (by kernel_rfl) (by kernel_rfl) (fun _ _ _ h => h) (v := ?_) (Or.inl ⟨by rfl, ?_⟩) (by assumption) ?_
        rotate_left
        · (intro w hSw; (try dsimp only at hSw); go_simp; try with_reducible rfl)
        simp only [Act.put, List.setIfInBounds_toArray]
        refine wpAnyH_done (by kernel_rfl) ?_ _
        clear hHeld2 HSx HTA HKA HRA HTd HKd HRd
        go_wp2
        go_roundw
        case rel => exact ⟨k + 1, by omega, by go_num, q2.out, by push_cast; rw [← Int.add_assoc]; exact q0.out, q1.out⟩
        case measure => simp [intOf]; omega
    · have hkz : ¬ ((k : Int) < (n : Int)) := by omega
      obtain rfl : k = n := by omega
      have hlk : l.take k = l := List.take_of_length_le (by rw [Hl.out]; exact Nat.le_refl _)
      rw [hlk] at hr
      have d0 := hT.c0
      have HTr := hidden hT
      have HKr := hidden hK
      have HRr := hidden hr
      have hwb : b ≤ wr.heap.size := by rw [← Hb.out]; exact hK.size
      have HLd : Hid ((rowC (cz.drop at')).length = (at' - at') * 3) := by unfold Hid; rw [rowC_len, List.length_drop, Hl1.out]
      have HLs : Hid ((cz.take at' ++ comeC l N false).length + (cz.drop at').length = at' + k + (at' - at')) := by unfold Hid; rw [List.length_append, comeC_len, List.length_take, List.length_drop, Hl1.out, Hl.out]; omega
      have HTl := hidden (hT.tailCells at' (by rw [Hl1.out]; omega))
      clear hr hT hK hlk
      by_cases hce : vc = at'
      · have Hd0 : Hid (cz.drop at' = []) := List.drop_of_length_le (by rw [Hl1.out]; omega)
        have HTz : Hid (∀ j u, (rowC (cz.drop at'))[j]? = some u → wr.cell? ((⟨g, 0, none⟩ : Addr).add j) = some u) := fun j u hj => by rw [Hd0.out] at hj; simp [rowC] at hj
        have HLz : Hid ((rowC (cz.drop at')).length = 0 * 3) := by unfold Hid; rw [Hd0.out]; rfl
        have HLs' : Hid ((cz.take at' ++ comeC l N false).length + (cz.drop at').length = at' + k + 0) := by unfold Hid; have := HLs.out; omega
        clear HLs
        have HLs := HLs'
        clear HLs'
        have hce2 := hce.symm
        subst hce2
        go_wp2_with (at_builtin; refine wpList_append_own _ rfl _ _ 36 rfl b 83 i0 (.agg #[.int .u8 0, .int .i64 0, .bool false]) 3 24 Try.underlying36 hi hz0 hz1 hz2 rfl (by decide) _ _ _ rfl HRr.out ⟨g, 0, none⟩ (0) (0) (rowC (cz.drop at')) rfl HLz.out HTz.out (rowC_one _) ?e3 ?e4 hwb ?_)
        case e3 => unfold maxLen; omega
        case e4 => omega
        intro v2 w2 hr2 hg2 _
        obtain ⟨va2, vc2, rfl⟩ := own_any_slice hr2
        obtain ⟨q0, q1, q2, q3, q4⟩ := rdel_fin HTr.out (Rl.refl _) hg2 HV3.out hMw hr2 (by have := HLs.out; omega) hB HKr.out Hb.out.symm
        clear hr2 hg2 d0
        go_wp2
        go_ret
        exact ⟨rfl, _, q2.out, q3.out, q4.out⟩
      · have hcez : ¬ ((vc : Int) = (at' : Int)) := by omega
        have Hd0 : Hid (cz.drop at' = []) := List.drop_of_length_le (by rw [Hl1.out]; omega)
        have HLz : Hid ((rowC (cz.drop at')).length = 0 * 3) := by unfold Hid; rw [Hd0.out]; rfl
        have HLs' : Hid ((cz.take at' ++ comeC l N false).length + (cz.drop at').length = at' + k + 0) := by unfold Hid; have := HLs.out; omega
        clear HLs
        have HLs := HLs'
        clear HLs'
        go_wp2_with (at_builtin; refine wpList_append_own _ rfl _ _ 36 rfl b 83 i0 (.agg #[.int .u8 0, .int .i64 0, .bool false]) 3 24 Try.underlying36 hi hz0 hz1 hz2 rfl (by decide) _ _ _ rfl HRr.out ⟨g, at' * 3, none⟩ (0) (vc - at') (rowC (cz.drop at')) rfl HLz.out HTl.out (rowC_one _) ?e3 ?e4 hwb ?_)
        case e3 => unfold maxLen; omega
        case e4 => omega
        intro v2 w2 hr2 hg2 _
        obtain ⟨va2, vc2, rfl⟩ := own_any_slice hr2
        obtain ⟨q0, q1, q2, q3, q4⟩ := rdel_fin HTr.out (Rl.refl _) hg2 HV3.out hMw hr2 (by have := HLs.out; omega) hB HKr.out Hb.out.symm
        clear hr2 hg2 d0
        go_wp2
        go_ret
        exact ⟨rfl, _, q2.out, q3.out, q4.out⟩

set_option maxHeartbeats 4000000 in
theorem rins_eq_on (B M g vc : Nat) (cs : List Rc) (N : Int) (at' : Nat) (ad : Addr) (cap n : Nat) (l : List Nat) (w : World) (h : RTab B w M (.slice (some ⟨g, 0, none⟩) at' vc) cs N) (hs : cs.length = at') (hs2 : at' + n ≤ 65536) (hB : B ≤ w.heap.size) (hvc : at' ≤ vc) (hvm : vc ≤ 9223372036854775807)
    (hl : l.length = n) (hn : 0 < n) (hN : 0 ≤ N ∧ N ≤ 1000000000) (hc : ∀ j u, (bytesV l)[j]? = some u → w.cell? (ad.add j) = some u) (hout : ¬ ROwn M (.slice (some ⟨g, 0, none⟩) at' vc) ad.block) (h0 : 0 < at') (h00 : 0 < N) :
    Calls Try.prog 45 #[.pointer (some ⟨M, 0, none⟩), .int .i64 at', .slice (some ad) n cap] w fun e w' => e = .returned (.int .i64 0) ∧ ∃ lv', RTab B w' M lv' (rins cs at' l N) (N + (n : Int)) ∧ Kept (ROwn M (.slice (some ⟨g, 0, none⟩) at' vc)) w w' ∧ (∀ k, lv'.ownBlock = some k → w.heap.size ≤ k) := by
  obtain ⟨i0, hi, hz0, hz1, hz2⟩ := info_parts info59
  have HG : Hid (∀ k, k < n → ∃ x : Nat, l[k]? = some x ∧ ∀ wr, Kept (ROwn M (.slice (some ⟨g, 0, none⟩) at' vc)) w wr → wr.cell? (ad.add k) = some (.int .u8 x)) := fun k hk => by
    have hk' : k < l.length := by omega
    refine ⟨l[k], List.getElem?_eq_getElem hk', fun wr hb => ?_⟩
    have h2 := hc k _ (show (bytesV l)[k]? = some (.int .u8 (l[k] : Nat)) by simp [bytesV, List.getElem?_eq_getElem hk'])
    have hbk : (ad.add k).block = ad.block := by unfold Addr.add; split <;> rfl
    have h3 := hb.block (ad.add k).block (World.block_lt_of_cell? _ _ h2) (by rw [hbk]; exact hout)
    rw [← h2]
    simp only [World.cell?, h3]
  have c0 := h.c0
  have c1 := h.c1
  have HT := hidden h
  have Hs := hidden hs
  have Hl := hidden hl
  have h2 : ¬ (65536 < (at' : Int) + (n : Int)) := by omega
  have h3 : ¬ ((n : Int) = 0) := by omega
  have hw1 : IntKind.i64.wrap ((at' : Int) + (n : Int)) = (at' : Int) + (n : Int) := IntWalk.i64_in _ (by omega)
  clear h hs hl hc
  have HT1 : Hid (RTab B w M (.slice (some ⟨g, 0, none⟩) at' vc) (setF cs at') N) := by rw [setF_out cs at' (by rw [Hs.out]; omega)]; exact HT.out
  have HK1 : Hid (Kept (ROwn M (.slice (some ⟨g, 0, none⟩) at' vc)) w w) := Kept.refl _ _
  have hl1 : (setF cs at').length = at' := by rw [setF_len]; exact Hs.out
  have e0 := HT1.out.c0
  have e1 := HT1.out.c1
  have ha0z : 0 < (at' : Int) := by omega
  obtain ⟨m, hm⟩ : ∃ m : Nat, (at' : Int) - 1 = (m : Int) := ⟨at' - 1, by omega⟩
  have hm1 : m < at' := by omega
  have hm1z : (m : Int) < (at' : Int) := by omega
  have hm2 : IntKind.i64.wrap (m : Int) = (m : Int) := IntWalk.i64_in _ (by omega)
  obtain ⟨pm, hpm⟩ : ∃ pm, (setF cs at')[m]? = some pm := ⟨_, List.getElem?_eq_getElem (by rw [setF_len, Hs.out]; exact hm1)⟩
  obtain ⟨g', eg, _, p1, _⟩ := RTab.part (show RTab B _ M (.slice (some ⟨g, 0, none⟩) (setF cs at').length vc) (setF cs at') N by rw [hl1]; exact HT1.out) m pm hpm
  obtain rfl : g = g' := by simpa using eg
  obtain ⟨k1, hk1⟩ : ∃ k1, pm.n = k1 := ⟨_, rfl⟩
  rw [hk1] at p1
  obtain ⟨on, hon⟩ : ∃ on, (k1 == N) = on := ⟨_, rfl⟩
  have Hon : Hid (onOf (setF cs at') at' N = on) := by
    unfold Hid onOf
    rw [decide_eq_true ⟨h0, h00⟩, show at' - 1 = m by omega, hpm, Bool.true_and, ← hon, ← hk1]
    rfl
  clear hpm hk1 eg
  have Hl1 := hidden hl1
  clear hl1
  unfold rins
  rw [Hon.out]
  generalize hcz : setF cs at' = cz at *
  have hMw := HT.out.lt
  obtain ⟨b, hb⟩ : ∃ b, w.heap.size = b := ⟨_, rfl⟩
  have Hb := hidden hb
  have HLV : Hid (∀ j, Value.ownBlock (.slice (some ⟨g, 0, none⟩) at' vc) = some j → j < b) := fun j hj => by rw [← hb]; exact (HT.out.row.lt j hj).2
  rw [hb] at hMw hB
  clear hb hcz Hon
  go_enter Try.func45, Try.ntmps45
  go_wp2_with (at_builtin; fail)
  obtain ⟨W, hW⟩ : ∃ W, w = W := ⟨_, rfl⟩
  rw [hW] at HT1 e0 e1 p1 ⊢
  have HK1' : Hid (Kept (ROwn M (.slice (some ⟨g, 0, none⟩) at' vc)) w W) := by rw [← hW]; exact HK1.out
  clear HK1
  have HK1 := HK1'
  clear HK1' c0 c1 hW
  go_quiet (fail)
  go_wp2_with (at_builtin; refine wpList_append_own _ rfl _ _ 36 rfl b 83 i0 (.agg #[.int .u8 0, .int .i64 0, .bool false]) 3 24 Try.underlying36 hi hz0 hz1 hz2 rfl (by decide) _ _ _ rfl (World.ownsRow_nil _ _ _ _) ⟨g, 0, none⟩ at' vc (rowC (cz.take at')) rfl ?d0 (HT1.out.headCells at') (rowC_one _) ?d3 ?d4 ?d5 ?_)
  case d0 => rw [rowC_len, List.length_take, Hl1.out, Nat.min_eq_left (by omega)]
  case d3 => unfold maxLen; omega
  case d4 => omega
  case d5 => rw [← Hb.out]; exact HK1.out.size
  intro v1 w1 hr1 hg1 _
  have hg1 : W.grownBy w1 none := ⟨hg1.os, hg1.tape, hg1.output, hg1.size, fun k hk hne => hg1.block k hk hne⟩
  have HT2 := hidden (HT1.out.grown hg1)
  have HK2 := hidden (HK1.out.trans (O' := ROwn M (.slice (some ⟨g, 0, none⟩) at' vc)) (kept_none hg1) (fun _ _ h => h))
  have hr1' : w1.ownsRow b 83 3 v1 at' (rowC (cz.take at')) := by simpa using hr1
  have HR2 := hidden hr1'
  clear hr1 hr1' hg1 e0 e1 p1
  go_wp2_with fail
  go_loopw [8, 9] (fun v j wr => ∃ k : Nat, k ≤ n ∧ j = .int .i64 (k : Nat) ∧ wr.ownsRow b 83 3 v (at' + k) (rowC (cz.take at' ++ comeC (l.take k) N on)) ∧ RTab B wr M (.slice (some ⟨g, 0, none⟩) at' vc) cz (N + (k : Int)) ∧ Kept (ROwn M (.slice (some ⟨g, 0, none⟩) at' vc)) w wr) (fun _ j _ => n - (intOf j).toNat)
  case atStart => exact ⟨0, Nat.zero_le _, rfl, by simpa [comeC] using HR2.out, by simpa using HT2.out, HK2.out⟩
  case round =>
    obtain ⟨k, hk, rfl, hr, hT, hK⟩ := hrel
    obtain ⟨va3, vc3, hv3⟩ := own_any_slice hr
    subst hv3
    have HV3 : Hid (∀ j, Value.ownBlock (.slice va3 (at' + k) vc3) = some j → b ≤ j) := fun j hj => (hr.lt j hj).1
    by_cases hlt : k < n
    · obtain ⟨x, hx, hcx⟩ := HG.out k hlt
      have d0 := hT.c0
      have d1 := hT.c1
      have d2 := hT.fz 1
      have hkz : (k : Int) < (n : Int) := by omega
      have hw3 : IntKind.i64.wrap (N + (k : Int) + 1) = N + (k : Int) + 1 := IntWalk.i64_in _ (by omega)
      have HN := hidden (come_next (cz := cz) (at' := at') (N := N) (on := on) hx Hl.out hlt)
      have HRs : Hid ((wr.setCell ⟨M, 1, none⟩ (.int .i64 (N + (k : Int) + 1))).ownsRow b 83 3 (.slice va3 (at' + k) vc3) (at' + k) (rowC (cz.take at' ++ comeC (l.take k) N on))) := hr.kept (grownBy_set wr M 1 _) (Or.inr (fun e => by have := HV3.out M e; omega))
      have HTs := hidden (hT.num (N + (k : Int) + 1))
      have HKs := hidden (hK.trans (kept_some (grownBy_set wr M 1 (.int .i64 (N + (k : Int) + 1))) (O := ROwn M (.slice (some ⟨g, 0, none⟩) at' vc)) (Or.inl rfl)) (fun _ _ h => h))
      have Hcx := hidden hcx
      clear hr hT hK hcx hx
      go_wp2_with fail
      generalize (wr.setCell ⟨M, 1, none⟩ (.int .i64 (N + (k : Int) + 1))) = Wr at *
      clear d0 d1 d2
      have hgd := grown_drew' Wr
      have HTd := hidden (HTs.out.grown hgd)
      have HKd := hidden (HKs.out.trans (O' := ROwn M (.slice (some ⟨g, 0, none⟩) at' vc)) (kept_none hgd) (fun _ _ h => h))
      have HRd : Hid (Wr.drew.ownsRow b 83 3 (.slice va3 (at' + k) vc3) (at' + k) (rowC (cz.take at' ++ comeC (l.take k) N on))) := HRs.out
      clear hgd HTs HKs HRs
      have HSx : Hid (∀ u, Kept (ROwn M (.slice (some ⟨g, 0, none⟩) at' vc)) w u → u.cell? ⟨M, 1, none⟩ = some (.int .i64 (N + (k : Int) + 1)) → (fun u : World => u.cell? (ad.add k) = some (.int .u8 x) ∧ u.cell? ⟨M, 1, none⟩ = some (.int .i64 (N + (k : Int) + 1))) u) := fun u hu hm => ⟨Hcx.out u hu, hm⟩
      by_cases hk0 : k = 0
      · have hk0b : (((k : Int) == 0) && !on) = (!on) := by rw [hk0]; simp
        have hk0z : ((k : Int) == 0) = true := by rw [hk0]; rfl
        clear hk0
        refine wp_region_held_drew (S := (fun u : World => u.cell? (ad.add k) = some (.int .u8 x) ∧ u.cell? ⟨M, 1, none⟩ = some (.int .i64 (N + (k : Int) + 1)))) (by kernel_rfl) (HSx.out _ HKd.out HTd.out.c1) (fun hHeld => ?_)
        generalize Wr.drew = V at *
        refine take_dst 0 (some 93) rfl rfl (by kernel_rfl) (by kernel_rfl) (by kernel_rfl) (fun _ _ _ h => h) (v := ?_) (Or.inl ⟨by rfl, ?_⟩) (by assumption) ?_
        rotate_left
        · (intro w hSw; (try dsimp only at hSw); go_simp; try with_reducible rfl)
        simp only [Act.put, List.setIfInBounds_toArray, List.set_cons_zero, List.set_cons_succ]
        refine take_dst 1 (some 94) rfl rfl (by kernel_rfl) (by kernel_rfl) (by kernel_rfl) (fun _ _ _ h => h) (v := ?_) (Or.inl ⟨by rfl, ?_⟩) (by assumption) ?_
        rotate_left
        · (intro w hSw; (try dsimp only at hSw); go_simp; try with_reducible rfl)
        simp only [Act.put, List.setIfInBounds_toArray, List.set_cons_zero, List.set_cons_succ]
        refine take_dst 2 (some 95) rfl rfl (by kernel_rfl) (by kernel_rfl) (by kernel_rfl) (fun _ _ _ h => h) (v := ?_) (Or.inl ⟨by rfl, ?_⟩) (by assumption) ?_
        rotate_left
        · (intro w hSw; (try dsimp only at hSw); go_simp; try with_reducible rfl)
        simp only [Act.put, List.setIfInBounds_toArray, List.set_cons_zero, List.set_cons_succ]
        refine take_dst 3 (some 96) rfl rfl (by kernel_rfl) (by kernel_rfl) (by kernel_rfl) (fun _ _ _ h => h) (v := ?_) (Or.inl ⟨by rfl, ?_⟩) (by assumption) ?_
        rotate_left
        · (intro w hSw; (try dsimp only at hSw); go_simp; try with_reducible rfl)
        simp only [Act.put, List.setIfInBounds_toArray, List.set_cons_zero, List.set_cons_succ]
        refine take_dst 4 (some 97) rfl rfl (by kernel_rfl) (by kernel_rfl) (by kernel_rfl) (fun _ _ _ h => h) (v := ?_) (Or.inl ⟨by rfl, ?_⟩) (by assumption) ?_
        rotate_left
        · (intro w hSw; (try dsimp only at hSw); go_simp; try with_reducible rfl)
        simp only [Act.put, List.setIfInBounds_toArray, List.set_cons_zero, List.set_cons_succ]
        refine take_dst 5 (some 98) rfl rfl (by kernel_rfl) (by kernel_rfl) (by kernel_rfl) (fun _ _ _ h => h) (v := ?_) (Or.inl ⟨by rfl, ?_⟩) (by assumption) ?_
        rotate_left
        · (intro w hSw; (try dsimp only at hSw); go_simp; try with_reducible rfl)
        simp only [Act.put, List.setIfInBounds_toArray, List.set_cons_zero, List.set_cons_succ]
        refine take_dst 6 (some 99) rfl rfl (by kernel_rfl) (by kernel_rfl) (by kernel_rfl) (fun _ _ _ h => h) (v := ?_) (Or.inl ⟨by rfl, ?_⟩) (by assumption) ?_
        rotate_left
        · (intro w hSw; (try dsimp only at hSw); go_simp; try with_reducible rfl)
        simp only [Act.put, List.setIfInBounds_toArray, List.set_cons_zero, List.set_cons_succ]
        refine take_dst 7 (some 100) rfl rfl (by kernel_rfl) (by kernel_rfl) (by kernel_rfl) (fun _ _ _ h => h) (v := ?_) (Or.inl ⟨by rfl, ?_⟩) (by assumption) ?_
        rotate_left
        · (intro w hSw; (try dsimp only at hSw); go_simp; try with_reducible rfl)
        simp only [Act.put, List.setIfInBounds_toArray, List.set_cons_zero, List.set_cons_succ]
        refine take_dst 8 (some 101) rfl rfl (by kernel_rfl) (by kernel_rfl) (by kernel_rfl) (fun _ _ _ h => h) (v := ?_) (Or.inl ⟨by rfl, ?_⟩) (by assumption) ?_
        rotate_left
        · (intro w hSw; (try dsimp only at hSw); go_simp; try with_reducible rfl)
        simp only [Act.put, List.setIfInBounds_toArray, List.set_cons_zero, List.set_cons_succ]
        refine take_dst 9 (some 102) rfl rfl (by kernel_rfl) (by kernel_rfl) (by kernel_rfl) (fun _ _ _ h => h) (v := ?_) (Or.inl ⟨by rfl, ?_⟩) (by assumption) ?_
        rotate_left
        · (intro w hSw; (try dsimp only at hSw); go_simp; try with_reducible rfl)
        simp only [Act.put, List.setIfInBounds_toArray, List.set_cons_zero, List.set_cons_succ]
        refine take_dst 10 (some 103) rfl rfl (by kernel_rfl) (by kernel_rfl) (by kernel_rfl) (fun _ _ _ h => h) (v := ?_) (Or.inl ⟨by rfl, ?_⟩) (by assumption) ?_
        rotate_left
        · (intro w hSw; (try dsimp only at hSw); go_simp; try with_reducible rfl)
        simp only [Act.put, List.setIfInBounds_toArray, List.set_cons_zero, List.set_cons_succ]
        refine take_dst 11 (some 104) rfl rfl (by kernel_rfl) (by kernel_rfl) (by kernel_rfl) (fun _ _ _ h => h) (v := ?_) (Or.inl ⟨by rfl, ?_⟩) (by assumption) ?_
        rotate_left
        · (intro w hSw; (try dsimp only at hSw); go_simp; try with_reducible rfl)
        simp only [Act.put, List.setIfInBounds_toArray, List.set_cons_zero, List.set_cons_succ]
        refine take_dst 12 (some 105) rfl rfl (by kernel_rfl) (by kernel_rfl) (by kernel_rfl) (fun _ _ _ h => h) (v := ?_) (Or.inl ⟨by rfl, ?_⟩) (by assumption) ?_
        rotate_left
        · (intro w hSw; (try dsimp only at hSw); go_simp; try with_reducible rfl)
        simp only [Act.put, List.setIfInBounds_toArray, List.set_cons_zero, List.set_cons_succ]
        refine take_dst 13 (some 106) rfl rfl (by kernel_rfl) (by kernel_rfl) (by kernel_rfl) (fun _ _ _ h => h) (v := ?_) (Or.inl ⟨by rfl, ?_⟩) (by assumption) ?_
        rotate_left
        · (intro w hSw; (try dsimp only at hSw); go_simp; try with_reducible rfl)
        simp only [Act.put, List.setIfInBounds_toArray, List.set_cons_zero, List.set_cons_succ]
        refine take_dst 14 (some 107) rfl rfl (by kernel_rfl) (by kernel_rfl) (by kernel_rfl) (fun _ _ _ h => h) (v := ?_) (Or.inl ⟨by rfl, ?_⟩) (by assumption) ?_
        rotate_left
        · (intro w hSw; (try dsimp only at hSw); go_simp; try with_reducible rfl)
        simp only [Act.put, List.setIfInBounds_toArray, List.set_cons_zero, List.set_cons_succ]
        refine take_dst 15 (some 108) rfl rfl (by kernel_rfl) (by kernel_rfl) (by kernel_rfl) (fun _ _ _ h => h) (v := ?_) (Or.inl ⟨by rfl, ?_⟩) (by assumption) ?_
        rotate_left
        · (intro w hSw; (try dsimp only at hSw); go_simp; try with_reducible rfl)
        simp only [Act.put, List.setIfInBounds_toArray, List.set_cons_zero, List.set_cons_succ]
        refine wpAnyH_ready (rs := [16]) (by kernel_rfl) (by simp) ?_
        refine AllReadyH.cons rfl (fun K hK => ?_) AllReadyH.nil
        go_simp
        have hgA := grownBy_alloc V (.cells #[.int .u8 x, .int .i64 (N + (k : Int) + 1), .bool (!on)] 83)
        have HTA := hidden (HTd.out.grown hgA)
        have HKA := hidden (HKd.out.trans (O' := ROwn M (.slice (some ⟨g, 0, none⟩) at' vc)) (kept_none hgA) (fun _ _ h => h))
        have HRA := hidden (HRd.out.kept hgA (by cases Value.ownBlock (.slice va3 (at' + k) vc3) <;> simp))
        have hVb : b ≤ (V.alloc (.cells #[.int .u8 x, .int .i64 (N + (k : Int) + 1), .bool (!on)] 83)).heap.size := by rw [← Hb.out]; exact HKA.out.size
        refine hK.out _ _ (HSx.out _ HKA.out HTA.out.c1) (fun hHeld1 => ?_)
        clear hK K hHeld hgA
        refine wpAnyH_ready (rs := [17]) (by kernel_rfl) (by simp) ?_
        refine AllReadyH.cons rfl (fun K hK => ?_) AllReadyH.nil
        refine step_append_at rfl (.tmp 93) (.tmp 109) 36 rfl b 83 i0 (.agg #[.int .u8 0, .int .i64 0, .bool false]) 3 24 Try.underlying36 hi hz0 hz1 hz2 rfl (by decide) (.slice va3 (at' + k) vc3) (at' + k) _ (by simp [Act.eval]) HRA.out ⟨V.heap.size, 0, none⟩ 1 1 [.int .u8 x, .int .i64 (N + (k : Int) + 1), .bool (!on)] (by simp [Act.eval]) rfl (cells3 _ _ _ _) (by intro u hu; simp at hu; rcases hu with rfl | rfl | rfl <;> rfl) (by unfold maxLen; omega) (by omega) hVb (by decide) ?_
        intro v' w2 hr2 hg2
        obtain ⟨va4, vc4, rfl⟩ := own_any_slice hr2.out
        obtain ⟨q0, q1⟩ := HTA.out.kept1 HKA.out Hb.out.symm HV3.out HLV.out hMw (Rl.refl _) hg2.out
        have q2 : Hid (w2.ownsRow b 83 3 (.slice va4 (at' + k + 1) vc4) (at' + (k + 1)) (rowC (cz.take at' ++ comeC (l.take (k + 1)) N on))) := by rw [HN.out, hk0b]; exact hr2.out
        clear hr2 hg2
        refine hK.out _ _ (HSx.out _ q1.out q0.out.c1) (fun hHeld2 => ?_)
        clear hK K hHeld1
        refine take_dst 18 (some 8) rfl rfl (by kernel_rfl) (by kernel_rfl) (by kernel_rfl) (fun _ _ _ h => h) (v := ?_) (Or.inl ⟨by rfl, ?_⟩) (by assumption) ?_
        rotate_left
        · (intro w hSw; (try dsimp only at hSw); go_simp; try with_reducible rfl)
        simp only [Act.put, List.setIfInBounds_toArray]
        refine wpAnyH_done (by kernel_rfl) ?_ _
        clear hHeld2 HSx HTA HKA HRA HTd HKd HRd
        go_wp2
        go_roundw
        case rel => exact ⟨k + 1, by omega, by go_num, q2.out, by push_cast; rw [← Int.add_assoc]; exact q0.out, q1.out⟩
        case measure => simp [intOf]; omega
      · have hk0b : (((k : Int) == 0) && !on) = false := by rw [show ((k : Int) == 0) = false from by simp; omega]; rfl
        have hk0z : ((k : Int) == 0) = false := by simp; omega
        have hk0y : ¬ ((k : Int) = 0) := by omega
        clear hk0
        refine wp_region_held_drew (S := (fun u : World => u.cell? (ad.add k) = some (.int .u8 x) ∧ u.cell? ⟨M, 1, none⟩ = some (.int .i64 (N + (k : Int) + 1)))) (by kernel_rfl) (HSx.out _ HKd.out HTd.out.c1) (fun hHeld => ?_)
        generalize Wr.drew = V at *
        refine take_dst 0 (some 93) rfl rfl (by kernel_rfl) (by kernel_rfl) (by kernel_rfl) (fun _ _ _ h => h) (v := ?_) (Or.inl ⟨by rfl, ?_⟩) (by assumption) ?_
        rotate_left
        · (intro w hSw; (try dsimp only at hSw); go_simp; try with_reducible rfl)
        simp only [Act.put, List.setIfInBounds_toArray, List.set_cons_zero, List.set_cons_succ]
        refine take_dst 1 (some 94) rfl rfl (by kernel_rfl) (by kernel_rfl) (by kernel_rfl) (fun _ _ _ h => h) (v := ?_) (Or.inl ⟨by rfl, ?_⟩) (by assumption) ?_
        rotate_left
        · (intro w hSw; (try dsimp only at hSw); go_simp; try with_reducible rfl)
        simp only [Act.put, List.setIfInBounds_toArray, List.set_cons_zero, List.set_cons_succ]
        refine take_dst 2 (some 95) rfl rfl (by kernel_rfl) (by kernel_rfl) (by kernel_rfl) (fun _ _ _ h => h) (v := ?_) (Or.inl ⟨by rfl, ?_⟩) (by assumption) ?_
        rotate_left
        · (intro w hSw; (try dsimp only at hSw); go_simp; try with_reducible rfl)
        simp only [Act.put, List.setIfInBounds_toArray, List.set_cons_zero, List.set_cons_succ]
        refine take_dst 3 (some 96) rfl rfl (by kernel_rfl) (by kernel_rfl) (by kernel_rfl) (fun _ _ _ h => h) (v := ?_) (Or.inl ⟨by rfl, ?_⟩) (by assumption) ?_
        rotate_left
        · (intro w hSw; (try dsimp only at hSw); go_simp; try with_reducible rfl)
        simp only [Act.put, List.setIfInBounds_toArray, List.set_cons_zero, List.set_cons_succ]
        refine take_dst 4 (some 97) rfl rfl (by kernel_rfl) (by kernel_rfl) (by kernel_rfl) (fun _ _ _ h => h) (v := ?_) (Or.inl ⟨by rfl, ?_⟩) (by assumption) ?_
        rotate_left
        · (intro w hSw; (try dsimp only at hSw); go_simp; try with_reducible rfl)
        simp only [Act.put, List.setIfInBounds_toArray, List.set_cons_zero, List.set_cons_succ]
        refine take_dst 5 (some 98) rfl rfl (by kernel_rfl) (by kernel_rfl) (by kernel_rfl) (fun _ _ _ h => h) (v := ?_) (Or.inl ⟨by rfl, ?_⟩) (by assumption) ?_
        rotate_left
        · (intro w hSw; (try dsimp only at hSw); go_simp; try with_reducible rfl)
        simp only [Act.put, List.setIfInBounds_toArray, List.set_cons_zero, List.set_cons_succ]
        refine take_dst 6 (some 99) rfl rfl (by kernel_rfl) (by kernel_rfl) (by kernel_rfl) (fun _ _ _ h => h) (v := ?_) (Or.inl ⟨by rfl, ?_⟩) (by assumption) ?_
        rotate_left
        · (intro w hSw; (try dsimp only at hSw); go_simp; try with_reducible rfl)
        simp only [Act.put, List.setIfInBounds_toArray, List.set_cons_zero, List.set_cons_succ]
        refine take_dst 7 (some 100) rfl rfl (by kernel_rfl) (by kernel_rfl) (by kernel_rfl) (fun _ _ _ h => h) (v := ?_) (Or.inl ⟨by rfl, ?_⟩) (by assumption) ?_
        rotate_left
        · (intro w hSw; (try dsimp only at hSw); go_simp; try with_reducible rfl)
        simp only [Act.put, List.setIfInBounds_toArray, List.set_cons_zero, List.set_cons_succ]
        refine take_dst 8 (some 101) rfl rfl (by kernel_rfl) (by kernel_rfl) (by kernel_rfl) (fun _ _ _ h => h) (v := ?_) (Or.inl ⟨by rfl, ?_⟩) (by assumption) ?_
        rotate_left
        · (intro w hSw; (try dsimp only at hSw); go_simp; try with_reducible rfl)
        simp only [Act.put, List.setIfInBounds_toArray, List.set_cons_zero, List.set_cons_succ]
        refine take_dst 9 (some 102) rfl rfl (by kernel_rfl) (by kernel_rfl) (by kernel_rfl) (fun _ _ _ h => h) (v := ?_) (Or.inl ⟨by rfl, ?_⟩) (by assumption) ?_
        rotate_left
        · (intro w hSw; (try dsimp only at hSw); go_simp; try with_reducible rfl)
        simp only [Act.put, List.setIfInBounds_toArray, List.set_cons_zero, List.set_cons_succ]
        refine take_dst 10 (some 103) rfl rfl (by kernel_rfl) (by kernel_rfl) (by kernel_rfl) (fun _ _ _ h => h) (v := ?_) (Or.inl ⟨by rfl, ?_⟩) (by assumption) ?_
        rotate_left
        · (intro w hSw; (try dsimp only at hSw); go_simp; try with_reducible rfl)
        simp only [Act.put, List.setIfInBounds_toArray, List.set_cons_zero, List.set_cons_succ]
        refine take_dst 11 (some 104) rfl rfl (by kernel_rfl) (by kernel_rfl) (by kernel_rfl) (fun _ _ _ h => h) (v := ?_) (Or.inl ⟨by rfl, ?_⟩) (by assumption) ?_
        rotate_left
        · (intro w hSw; (try dsimp only at hSw); go_simp; try with_reducible rfl)
        simp only [Act.put, List.setIfInBounds_toArray, List.set_cons_zero, List.set_cons_succ]
        refine take_dst 12 (some 105) rfl rfl (by kernel_rfl) (by kernel_rfl) (by kernel_rfl) (fun _ _ _ h => h) (v := undef) (Or.inr ⟨by rfl, rfl⟩) (by assumption) ?_
        simp only [Act.put, List.setIfInBounds_toArray, List.set_cons_zero, List.set_cons_succ]
        refine take_dst 13 (some 106) rfl rfl (by kernel_rfl) (by kernel_rfl) (by kernel_rfl) (fun _ _ _ h => h) (v := undef) (Or.inr ⟨by rfl, rfl⟩) (by assumption) ?_
        simp only [Act.put, List.setIfInBounds_toArray, List.set_cons_zero, List.set_cons_succ]
        refine take_dst 14 (some 107) rfl rfl (by kernel_rfl) (by kernel_rfl) (by kernel_rfl) (fun _ _ _ h => h) (v := ?_) (Or.inl ⟨by rfl, ?_⟩) (by assumption) ?_
        rotate_left
        · (intro w hSw; (try dsimp only at hSw); go_simp; try with_reducible rfl)
        simp only [Act.put, List.setIfInBounds_toArray, List.set_cons_zero, List.set_cons_succ]
        refine take_dst 15 (some 108) rfl rfl (by kernel_rfl) (by kernel_rfl) (by kernel_rfl) (fun _ _ _ h => h) (v := ?_) (Or.inl ⟨by rfl, ?_⟩) (by assumption) ?_
        rotate_left
        · (intro w hSw; (try dsimp only at hSw); go_simp; try with_reducible rfl)
        simp only [Act.put, List.setIfInBounds_toArray, List.set_cons_zero, List.set_cons_succ]
        refine wpAnyH_ready (rs := [16]) (by kernel_rfl) (by simp) ?_
        refine AllReadyH.cons rfl (fun K hK => ?_) AllReadyH.nil
        go_simp
        have hgA := grownBy_alloc V (.cells #[.int .u8 x, .int .i64 (N + (k : Int) + 1), .bool false] 83)
        have HTA := hidden (HTd.out.grown hgA)
        have HKA := hidden (HKd.out.trans (O' := ROwn M (.slice (some ⟨g, 0, none⟩) at' vc)) (kept_none hgA) (fun _ _ h => h))
        have HRA := hidden (HRd.out.kept hgA (by cases Value.ownBlock (.slice va3 (at' + k) vc3) <;> simp))
        have hVb : b ≤ (V.alloc (.cells #[.int .u8 x, .int .i64 (N + (k : Int) + 1), .bool false] 83)).heap.size := by rw [← Hb.out]; exact HKA.out.size
        refine hK.out _ _ (HSx.out _ HKA.out HTA.out.c1) (fun hHeld1 => ?_)
        clear hK K hHeld hgA
        refine wpAnyH_ready (rs := [17]) (by kernel_rfl) (by simp) ?_
        refine AllReadyH.cons rfl (fun K hK => ?_) AllReadyH.nil
        refine step_append_at rfl (.tmp 93) (.tmp 109) 36 rfl b 83 i0 (.agg #[.int .u8 0, .int .i64 0, .bool false]) 3 24 Try.underlying36 hi hz0 hz1 hz2 rfl (by decide) (.slice va3 (at' + k) vc3) (at' + k) _ (by simp [Act.eval]) HRA.out ⟨V.heap.size, 0, none⟩ 1 1 [.int .u8 x, .int .i64 (N + (k : Int) + 1), .bool false] (by simp [Act.eval]) rfl (cells3 _ _ _ _) (by intro u hu; simp at hu; rcases hu with rfl | rfl | rfl <;> rfl) (by unfold maxLen; omega) (by omega) hVb (by decide) ?_
        intro v' w2 hr2 hg2
        obtain ⟨va4, vc4, rfl⟩ := own_any_slice hr2.out
        obtain ⟨q0, q1⟩ := HTA.out.kept1 HKA.out Hb.out.symm HV3.out HLV.out hMw (Rl.refl _) hg2.out
        have q2 : Hid (w2.ownsRow b 83 3 (.slice va4 (at' + k + 1) vc4) (at' + (k + 1)) (rowC (cz.take at' ++ comeC (l.take (k + 1)) N on))) := by rw [HN.out, hk0b]; exact hr2.out
        clear hr2 hg2
        refine hK.out _ _ (HSx.out _ q1.out q0.out.c1) (fun hHeld2 => ?_)
        clear hK K hHeld1
        refine take_dst 18 (some 8) rfl rfl (by kernel_rfl) (by kernel_rfl) (by kernel_rfl) (fun _ _ _ h => h) (v := ?_) (Or.inl ⟨by rfl, ?_⟩) (by assumption) ?_
        rotate_left
        · (intro w hSw; (try dsimp only at hSw); go_simp; try with_reducible rfl)
        simp only [Act.put, List.setIfInBounds_toArray]
        refine wpAnyH_done (by kernel_rfl) ?_ _
        clear hHeld2 HSx HTA HKA HRA HTd HKd HRd
        go_wp2
        go_roundw
        case rel => exact ⟨k + 1, by omega, by go_num, q2.out, by push_cast; rw [← Int.add_assoc]; exact q0.out, q1.out⟩
        case measure => simp [intOf]; omega
    · have hkz : ¬ ((k : Int) < (n : Int)) := by omega
      obtain rfl : k = n := by omega
      have hlk : l.take k = l := List.take_of_length_le (by rw [Hl.out]; exact Nat.le_refl _)
      rw [hlk] at hr
      have d0 := hT.c0
      have HTr := hidden hT
      have HKr := hidden hK
      have HRr := hidden hr
      have hwb : b ≤ wr.heap.size := by rw [← Hb.out]; exact hK.size
      have HLd : Hid ((rowC (cz.drop at')).length = (at' - at') * 3) := by unfold Hid; rw [rowC_len, List.length_drop, Hl1.out]
      have HLs : Hid ((cz.take at' ++ comeC l N on).length + (cz.drop at').length = at' + k + (at' - at')) := by unfold Hid; rw [List.length_append, comeC_len, List.length_take, List.length_drop, Hl1.out, Hl.out]; omega
      have HTl := hidden (hT.tailCells at' (by rw [Hl1.out]; omega))
      clear hr hT hK hlk
      by_cases hce : vc = at'
      · have Hd0 : Hid (cz.drop at' = []) := List.drop_of_length_le (by rw [Hl1.out]; omega)
        have HTz : Hid (∀ j u, (rowC (cz.drop at'))[j]? = some u → wr.cell? ((⟨g, 0, none⟩ : Addr).add j) = some u) := fun j u hj => by rw [Hd0.out] at hj; simp [rowC] at hj
        have HLz : Hid ((rowC (cz.drop at')).length = 0 * 3) := by unfold Hid; rw [Hd0.out]; rfl
        have HLs' : Hid ((cz.take at' ++ comeC l N on).length + (cz.drop at').length = at' + k + 0) := by unfold Hid; have := HLs.out; omega
        clear HLs
        have HLs := HLs'
        clear HLs'
        have hce2 := hce.symm
        subst hce2
        go_wp2_with (at_builtin; refine wpList_append_own _ rfl _ _ 36 rfl b 83 i0 (.agg #[.int .u8 0, .int .i64 0, .bool false]) 3 24 Try.underlying36 hi hz0 hz1 hz2 rfl (by decide) _ _ _ rfl HRr.out ⟨g, 0, none⟩ (0) (0) (rowC (cz.drop at')) rfl HLz.out HTz.out (rowC_one _) ?e3 ?e4 hwb ?_)
        case e3 => unfold maxLen; omega
        case e4 => omega
        intro v2 w2 hr2 hg2 _
        obtain ⟨va2, vc2, rfl⟩ := own_any_slice hr2
        obtain ⟨q0, q1, q2, q3, q4⟩ := rdel_fin HTr.out (Rl.refl _) hg2 HV3.out hMw hr2 (by have := HLs.out; omega) hB HKr.out Hb.out.symm
        clear hr2 hg2 d0
        go_wp2
        go_ret
        exact ⟨rfl, _, q2.out, q3.out, q4.out⟩
      · have hcez : ¬ ((vc : Int) = (at' : Int)) := by omega
        have Hd0 : Hid (cz.drop at' = []) := List.drop_of_length_le (by rw [Hl1.out]; omega)
        have HLz : Hid ((rowC (cz.drop at')).length = 0 * 3) := by unfold Hid; rw [Hd0.out]; rfl
        have HLs' : Hid ((cz.take at' ++ comeC l N on).length + (cz.drop at').length = at' + k + 0) := by unfold Hid; have := HLs.out; omega
        clear HLs
        have HLs := HLs'
        clear HLs'
        go_wp2_with (at_builtin; refine wpList_append_own _ rfl _ _ 36 rfl b 83 i0 (.agg #[.int .u8 0, .int .i64 0, .bool false]) 3 24 Try.underlying36 hi hz0 hz1 hz2 rfl (by decide) _ _ _ rfl HRr.out ⟨g, at' * 3, none⟩ (0) (vc - at') (rowC (cz.drop at')) rfl HLz.out HTl.out (rowC_one _) ?e3 ?e4 hwb ?_)
        case e3 => unfold maxLen; omega
        case e4 => omega
        intro v2 w2 hr2 hg2 _
        obtain ⟨va2, vc2, rfl⟩ := own_any_slice hr2
        obtain ⟨q0, q1, q2, q3, q4⟩ := rdel_fin HTr.out (Rl.refl _) hg2 HV3.out hMw hr2 (by have := HLs.out; omega) hB HKr.out Hb.out.symm
        clear hr2 hg2 d0
        go_wp2
        go_ret
        exact ⟨rfl, _, q2.out, q3.out, q4.out⟩
end Go.Proofs.PlatenPiece
