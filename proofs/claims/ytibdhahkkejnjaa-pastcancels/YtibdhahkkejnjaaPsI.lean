/- What Do comes to. -/
import Derived.Test.YtibdhahkkejnjaaPsH
namespace Go.Proofs.PlatenPiece
open Go Go.RowKit
set_option linter.unusedVariables false
set_option maxRecDepth 100000

theorem info57e : (Try.prog.info? 57).map (fun i => (i.zero, i.size, i.bytes)) = some (some (.agg #[.int .i64 0, .string ⟨#[]⟩, .string ⟨#[]⟩]), 3, 40) := by kernel_rfl
theorem info49 : (Try.prog.info? 49).map (fun i => (i.zero, i.size, i.bytes)) = some (some (.slice none 0 0), 1, 24) := by kernel_rfl

section
variable {B : Nat} {w w3 : World} {H T : Nat} {l : List Nat} {c : Nat} {O : Nat → Prop} {ov dv uv : Value} {op : List Ed} {dn ud : List (Value × List Ed)}
theorem cells3e (X : World) (a b c : Value) : ∀ j u, [a, b, c][j]? = some u → (X.alloc (.cells #[a, b, c] 57)).cell? ((⟨X.heap.size, 0, none⟩ : Addr).add j) = some u := by
  intro j u hj
  match j, hj with
  | 0, hj => simp at hj; subst hj; simp [Addr.add]
  | 1, hj => simp at hj; subst hj; simp [Addr.add]
  | 2, hj => simp at hj; subst hj; simp [Addr.add]
  | j + 3, hj => simp at hj
theorem Ap.but {H T b : Nat} {e : Ed} {u u' : World} {o : Option Nat} (h : Ap H T b e u) (hg : u.grownBy u' o) (h1 : o ≠ some H) (h2 : o ≠ some b) : Ap H T b e u' := by
  obtain ⟨x, hx, h0⟩ := h.hH
  exact ⟨⟨x, (hg.block H (Array.getElem?_eq_some_iff.1 hx).1 (fun e => h1 e.symm)).trans hx, h0⟩, (hg.block b (Array.getElem?_eq_some_iff.1 h.hb).1 (fun e => h2 e.symm)).trans h.hb⟩
theorem Ap.set1 {H T b : Nat} {e : Ed} {u : World} (h : Ap H T b e u) (v : Value) : Ap H T b e (u.setCell ⟨H, 1, none⟩ v) := by
  obtain ⟨x, hx, h0⟩ := h.hH
  have hne : b ≠ H := ty_ne h.hb hx (by decide)
  refine ⟨⟨_, heap_setCell_same u H 1 x 91 v hx, ?_⟩, ?_⟩
  · rw [Array.getElem?_setIfInBounds_ne (by decide)]; exact h0
  · rw [heap_setCell_other _ _ _ _ (by simpa using hne)]; exact h.hb
theorem row_slice {B : Nat} {w : World} {e : TypeId} {s n : Nat} {v : Value} {xs : List Value} (h : w.ownsRow B e s v n xs) : ∃ va vc, v = .slice va n vc := by
  rcases h.2 with ⟨e, h0⟩ | ⟨g, cap, cur, e, _⟩
  · exact ⟨none, 0, by rw [e, h0]⟩
  · exact ⟨_, _, e⟩
theorem HP.ap (h : HP B w H T l c O ov dv uv op dn ud) {b : Nat} {e : Ed} (hb : w.heap[b]? = some (.cells #[.int .i64 e.at', .string e.old, .string e.new] 57 (0, 0))) : Ap H T b e w := ⟨⟨_, h.head, rfl⟩, hb⟩

set_option maxHeartbeats 4000000 in
theorem do_yes (h : HP B w H T l c O ov dv uv op dn ud) (hl : ∀ c ∈ l, c < 256) (hc : c + 1 ≤ 4500) (hop : op.length ≤ 100000) (e : Ed) (hf : fitsL l e) (hm : l.length + e.new.size ≤ 65536 + e.old.size) (hne : e.old ≠ e.new) :
    Calls Try.prog 37 #[.pointer (some ⟨H, 0, none⟩), .agg #[.int .i64 e.at', .string e.old, .string e.new]] w fun q w' => q = .returned (.int .i64 0) ∧ ∃ O' ov', HP B w' H T (appL l e) (c + 2) O' ov' dv (.slice none 0 0) (op ++ [e]) dn [] ∧ Kept (HOwn H O ov dv uv dn ud) w w' ∧ (∀ k, k < w.heap.size → HOwn H O' ov' dv (.slice none 0 0) dn [] k → HOwn H O ov dv uv dn ud k) := by
  have hg0 := grownBy_alloc w (.cells #[.int .i64 e.at', .string e.old, .string e.new] 57)
  have HH := hidden (h.grown hg0)
  have HG := hidden hg0
  have hbx : (w.alloc (.cells #[.int .i64 e.at', .string e.old, .string e.new] 57)).heap[w.heap.size]? = some (.cells #[.int .i64 e.at', .string e.old, .string e.new] 57 (0, 0)) := heap_alloc_new _ _
  have HB := hidden hbx
  have HO0 := hidden (h.own)
  have Hl := hidden hl
  have Hc := hidden hc
  have Hop := hidden hop
  have Hf := hidden hf
  have Hne := hidden hne
  have Hm := hidden hm
  obtain ⟨b0, b1, b2⟩ : (w.alloc (.cells #[.int .i64 e.at', .string e.old, .string e.new] 57)).cell? ⟨w.heap.size, 0, none⟩ = some (.int .i64 e.at') ∧ (w.alloc (.cells #[.int .i64 e.at', .string e.old, .string e.new] 57)).cell? ⟨w.heap.size, 1, none⟩ = some (.string e.old) ∧ (w.alloc (.cells #[.int .i64 e.at', .string e.old, .string e.new] 57)).cell? ⟨w.heap.size, 2, none⟩ = some (.string e.new) := ⟨by simp only [World.cell?, hbx]; rfl, by simp only [World.cell?, hbx]; rfl, by simp only [World.cell?, hbx]; rfl⟩
  clear h hl hc hf hne hm hg0 hbx hop
  go_enter Try.func37, Try.ntmps37
  go_wp2_with fail
  generalize (w.alloc (.cells #[.int .i64 e.at', .string e.old, .string e.new] 57)) = W at *
  refine (fits_any HH.out.tx Hl.out (by have := Hc.out; omega) _ HH.out.head rfl e).mono ?_
  rintro q w1 ⟨⟨r, rfl, hr⟩, hg1⟩
  obtain rfl : r = true := hr.2 Hf.out
  have HH1 := hidden (HH.out.grown hg1)
  have HG1 := hidden (grown_tr HG.out hg1)
  have HB1 : Hid (w1.heap[w.heap.size]? = some (.cells #[.int .i64 e.at', .string e.old, .string e.new] 57 (0, 0))) := (hg1.block w.heap.size (Array.getElem?_eq_some_iff.1 HB.out).1 (by simp)).trans HB.out
  clear b0 b1 b2 hr hg1 HH HB HG
  go_wp2_with fail
  have HALL0 : Hid (∀ u, Ap H T w.heap.size e u → u.cell? ⟨H, 0, none⟩ = some (.pointer (some ⟨T, 0, none⟩)) ∧ u.cell? ⟨w.heap.size, 1, none⟩ = some (.string e.old) ∧ u.cell? ⟨w.heap.size, 2, none⟩ = some (.string e.new)) := fun u hu => ⟨hu.cells.1, hu.cells.2.2.1, hu.cells.2.2.2⟩
  have HA1 := hidden ((HH1.out.ap HB1.out).drew)
  have hle : e.old.size ≤ l.length := by have := Hf.out; unfold fitsL at this; omega
  have hlim := HH1.out.tx.lim
  have hnw := e.hn
  have how := e.ho
  obtain ⟨n, hn⟩ : ∃ n, l.length = n := ⟨_, rfl⟩
  obtain ⟨o, ho⟩ : ∃ o, e.old.size = o := ⟨_, rfl⟩
  obtain ⟨m, hm⟩ : ∃ m, e.new.size = m := ⟨_, rfl⟩
  have hm2 := Hm.out
  rw [hn] at hlim hle hm2
  rw [ho] at hle hm2 how
  rw [hm] at hm2 hnw
  have w1' : IntKind.i64.wrap ((n : Int) - (o : Int)) = (n : Int) - (o : Int) := IntWalk.i64_in _ (by omega)
  have w2' : IntKind.i64.wrap ((n : Int) - (o : Int) + (m : Int)) = (n : Int) - (o : Int) + (m : Int) := IntWalk.i64_in _ (by omega)
  have w3' : ¬ ((65536 : Int) < (n : Int) - (o : Int) + (m : Int)) := by omega
  refine wp_region_held_drew (S := (fun u => u.cell? ⟨H, 0, none⟩ = some (.pointer (some ⟨T, 0, none⟩)) ∧ u.cell? ⟨w.heap.size, 1, none⟩ = some (.string e.old) ∧ u.cell? ⟨w.heap.size, 2, none⟩ = some (.string e.new))) (by kernel_rfl) (HALL0.out _ HA1.out) (fun hHeld => ?_)
  refine take_dst 0 (some 13) rfl rfl (by kernel_rfl) (by kernel_rfl) (by kernel_rfl) (fun _ _ _ h => h) (v := ?_) (Or.inl ⟨by rfl, ?_⟩) (by assumption) ?_
  rotate_left
  · (intro w hSw; (try dsimp only at hSw); go_simp; try with_reducible rfl)
  simp only [Act.put, List.setIfInBounds_toArray, List.set_cons_zero, List.set_cons_succ]
  refine take_dst 1 (some 14) rfl rfl (by kernel_rfl) (by kernel_rfl) (by kernel_rfl) (fun _ _ _ h => h) (v := ?_) (Or.inl ⟨by rfl, ?_⟩) (by assumption) ?_
  rotate_left
  · (intro w hSw; (try dsimp only at hSw); go_simp; try with_reducible rfl)
  simp only [Act.put, List.setIfInBounds_toArray, List.set_cons_zero, List.set_cons_succ]
  refine take_dst 2 (some 15) rfl rfl (by kernel_rfl) (by kernel_rfl) (by kernel_rfl) (fun _ _ _ h => h) (v := ?_) (Or.inl ⟨by rfl, ?_⟩) (by assumption) ?_
  rotate_left
  · (intro w hSw; (try dsimp only at hSw); go_simp; try with_reducible rfl)
  simp only [Act.put, List.setIfInBounds_toArray, List.set_cons_zero, List.set_cons_succ]
  refine take_dst 3 (some 16) rfl rfl (by kernel_rfl) (by kernel_rfl) (by kernel_rfl) (fun _ _ _ h => h) (v := ?_) (Or.inl ⟨by rfl, ?_⟩) (by assumption) ?_
  rotate_left
  · (intro w hSw; (try dsimp only at hSw); go_simp; try with_reducible rfl)
  simp only [Act.put, List.setIfInBounds_toArray, List.set_cons_zero, List.set_cons_succ]
  refine take_dst 5 (some 18) rfl rfl (by kernel_rfl) (by kernel_rfl) (by kernel_rfl) (fun _ _ _ h => h) (v := ?_) (Or.inl ⟨by rfl, ?_⟩) (by assumption) ?_
  rotate_left
  · (intro w hSw; (try dsimp only at hSw); go_simp; try with_reducible rfl)
  simp only [Act.put, List.setIfInBounds_toArray, List.set_cons_zero, List.set_cons_succ]
  refine take_dst 6 (some 19) rfl rfl (by kernel_rfl) (by kernel_rfl) (by kernel_rfl) (fun _ _ _ h => h) (v := ?_) (Or.inl ⟨by rfl, ?_⟩) (by assumption) ?_
  rotate_left
  · (intro w hSw; (try dsimp only at hSw); go_simp; try with_reducible rfl)
  simp only [Act.put, List.setIfInBounds_toArray, List.set_cons_zero, List.set_cons_succ]
  refine take_dst 7 (some 20) rfl rfl (by kernel_rfl) (by kernel_rfl) (by kernel_rfl) (fun _ _ _ h => h) (v := ?_) (Or.inl ⟨by rfl, ?_⟩) (by assumption) ?_
  rotate_left
  · (intro w hSw; (try dsimp only at hSw); go_simp; try with_reducible rfl)
  simp only [Act.put, List.setIfInBounds_toArray, List.set_cons_zero, List.set_cons_succ]
  refine take_dst 9 (some 22) rfl rfl (by kernel_rfl) (by kernel_rfl) (by kernel_rfl) (fun _ _ _ h => h) (v := ?_) (Or.inl ⟨by rfl, ?_⟩) (by assumption) ?_
  rotate_left
  · (intro w hSw; (try dsimp only at hSw); go_simp; try with_reducible rfl)
  simp only [Act.put, List.setIfInBounds_toArray, List.set_cons_zero, List.set_cons_succ]
  refine take_dst 10 (some 23) rfl rfl (by kernel_rfl) (by kernel_rfl) (by kernel_rfl) (fun _ _ _ h => h) (v := ?_) (Or.inl ⟨by rfl, ?_⟩) (by assumption) ?_
  rotate_left
  · (intro w hSw; (try dsimp only at hSw); go_simp; try with_reducible rfl)
  simp only [Act.put, List.setIfInBounds_toArray, List.set_cons_zero, List.set_cons_succ]
  refine take_dst 11 (some 24) rfl rfl (by kernel_rfl) (by kernel_rfl) (by kernel_rfl) (fun _ _ _ h => h) (v := ?_) (Or.inl ⟨by rfl, ?_⟩) (by assumption) ?_
  rotate_left
  · (intro w hSw; (try dsimp only at hSw); go_simp; try with_reducible rfl)
  simp only [Act.put, List.setIfInBounds_toArray, List.set_cons_zero, List.set_cons_succ]
  refine wpAnyH_ready (rs := [4]) (by kernel_rfl) (by simp) ?_
  refine AllReadyH.cons rfl (fun K hK => ?_) AllReadyH.nil
  go_simp
  refine (tx_len HH1.out.tx.drew).mono ?_
  rintro q w2 ⟨rfl, rfl⟩
  refine hK.out _ _ (HALL0.out _ HA1.out) (fun hHeld2 => ?_)
  clear hK K
  refine take_dst 8 (some 21) rfl rfl (by kernel_rfl) (by kernel_rfl) (by kernel_rfl) (fun _ _ _ h => h) (v := ?_) (Or.inl ⟨by rfl, ?_⟩) (by assumption) ?_
  rotate_left
  · (intro w hSw; (try dsimp only at hSw); go_simp; try with_reducible rfl)
  simp only [Act.put, List.setIfInBounds_toArray, List.set_cons_zero, List.set_cons_succ]
  refine take_dst 12 (some 25) rfl rfl (by kernel_rfl) (by kernel_rfl) (by kernel_rfl) (fun _ _ _ h => h) (v := ?_) (Or.inl ⟨by rfl, ?_⟩) (by assumption) ?_
  rotate_left
  · (intro w hSw; (try dsimp only at hSw); go_simp; try with_reducible rfl)
  simp only [Act.put, List.setIfInBounds_toArray, List.set_cons_zero, List.set_cons_succ]
  refine take_dst 13 (some 26) rfl rfl (by kernel_rfl) (by kernel_rfl) (by kernel_rfl) (fun _ _ _ h => h) (v := ?_) (Or.inl ⟨by rfl, ?_⟩) (by assumption) ?_
  rotate_left
  · (intro w hSw; (try dsimp only at hSw); go_simp; try with_reducible rfl)
  simp only [Act.put, List.setIfInBounds_toArray, List.set_cons_zero, List.set_cons_succ]
  refine wpAnyH_done (by kernel_rfl) ?_ _
  clear hn ho hm w1' w2' hlim hle hm2 how hnw
  have HH2 := hidden (HH1.out.grown (grown_drew w1))
  have HB2 : Hid (w1.drew.heap[w.heap.size]? = some (.cells #[.int .i64 e.at', .string e.old, .string e.new] 57 (0, 0))) := HB1.out
  have HG2 := hidden (grown_tr HG1.out (grown_drew w1))
  clear HH1 HB1 HG1 HA1 hHeld hHeld2
  generalize w1.drew = W2 at *
  obtain ⟨b0, b1, b2⟩ : W2.cell? ⟨w.heap.size, 0, none⟩ = some (.int .i64 e.at') ∧ W2.cell? ⟨w.heap.size, 1, none⟩ = some (.string e.old) ∧ W2.cell? ⟨w.heap.size, 2, none⟩ = some (.string e.new) := ⟨by simp only [World.cell?, HB2.out]; rfl, by simp only [World.cell?, HB2.out]; rfl, by simp only [World.cell?, HB2.out]; rfl⟩
  have hs : (e.old.toList == e.new.toList) = false := by
    rw [Bool.eq_false_iff]
    exact fun q => Hne.out ((str_beq _ _).1 q)
  go_wp2_with fail
  refine (apply_any HH2.out.tx Hc.out _ HH2.out.head rfl e).mono ?_
  rintro q w5 ⟨⟨v5, rfl⟩, O5, hT5, hK5, hO5⟩
  have HH5 := hidden ((HH2.out.text hT5 hK5).grown (grown_drew w5))
  have HA5 := hidden (((HH2.out.ap HB2.out).kept HH2.out.tx hK5).drew)
  have HK5 : Hid (Kept (HOwn H O ov dv uv dn ud) w w5.drew) := ((kept_none (O := HOwn H O ov dv uv dn ud) HG2.out).trans (O' := O) (hK5.trans (O' := O) (kept_drew O w5) (fun _ _ h => h)) (fun i hi ho => Or.inr (Or.inl ho)))
  have HO5 : Hid (∀ k, k < w.heap.size → O5 k → O k) := fun k hk ho => hO5 k (Nat.lt_of_lt_of_le hk HG2.out.size) ho
  clear hT5 hK5 hO5 HH2 HB2 HG2 b0 b1 b2 hs w3' HALL0
  go_wp2_with fail
  have HALL : Hid (∀ u, Ap H T w.heap.size e u → u.cell? ⟨w.heap.size, 0, none⟩ = some (.int .i64 e.at') ∧ u.cell? ⟨w.heap.size, 1, none⟩ = some (.string e.old) ∧ u.cell? ⟨w.heap.size, 2, none⟩ = some (.string e.new)) := fun u hu => ⟨hu.cells.2.1, hu.cells.2.2.1, hu.cells.2.2.2⟩
  obtain ⟨i0, hi, hz0, hz1, hz2⟩ := info_parts info57e
  refine wp_region_held_drew (S := (fun u => u.cell? ⟨w.heap.size, 0, none⟩ = some (.int .i64 e.at') ∧ u.cell? ⟨w.heap.size, 1, none⟩ = some (.string e.old) ∧ u.cell? ⟨w.heap.size, 2, none⟩ = some (.string e.new))) (by kernel_rfl) (HALL.out _ HA5.out) (fun hHeld => ?_)
  generalize w5.drew = W5 at *
  refine take_dst 0 (some 35) rfl rfl (by kernel_rfl) (by kernel_rfl) (by kernel_rfl) (fun _ _ _ h => h) (v := ?_) (Or.inl ⟨by rfl, ?_⟩) (by assumption) ?_
  rotate_left
  · (intro w hSw; (try dsimp only at hSw); go_simp; try with_reducible rfl)
  simp only [Act.put, List.setIfInBounds_toArray, List.set_cons_zero, List.set_cons_succ]
  refine take_dst 1 (some 36) rfl rfl (by kernel_rfl) (by kernel_rfl) (by kernel_rfl) (fun _ _ _ h => h) (v := ?_) (Or.inl ⟨by rfl, ?_⟩) (by assumption) ?_
  rotate_left
  · (intro w hSw; (try dsimp only at hSw); go_simp; try with_reducible rfl)
  simp only [Act.put, List.setIfInBounds_toArray, List.set_cons_zero, List.set_cons_succ]
  refine take_dst 2 (some 37) rfl rfl (by kernel_rfl) (by kernel_rfl) (by kernel_rfl) (fun _ _ _ h => h) (v := ?_) (Or.inl ⟨by rfl, ?_⟩) (by assumption) ?_
  rotate_left
  · (intro w hSw; (try dsimp only at hSw); go_simp; try with_reducible rfl)
  simp only [Act.put, List.setIfInBounds_toArray, List.set_cons_zero, List.set_cons_succ]
  refine take_dst 3 (some 38) rfl rfl (by kernel_rfl) (by kernel_rfl) (by kernel_rfl) (fun _ _ _ h => h) (v := ?_) (Or.inl ⟨by rfl, ?_⟩) (by assumption) ?_
  rotate_left
  · (intro w hSw; (try dsimp only at hSw); go_simp; try with_reducible rfl)
  simp only [Act.put, List.setIfInBounds_toArray, List.set_cons_zero, List.set_cons_succ]
  refine take_dst 5 (some 40) rfl rfl (by kernel_rfl) (by kernel_rfl) (by kernel_rfl) (fun _ _ _ h => h) (v := ?_) (Or.inl ⟨by rfl, ?_⟩) (by assumption) ?_
  rotate_left
  · (intro w hSw; (try dsimp only at hSw); go_simp; try with_reducible rfl)
  simp only [Act.put, List.setIfInBounds_toArray, List.set_cons_zero, List.set_cons_succ]
  refine wpAnyH_ready (rs := [4, 6]) (by kernel_rfl) (by simp) ?_
  have c15 : W5.cell? ⟨H, 1, none⟩ = some ov := HH5.out.cells.2.1
  have Hnb : Hid (ov.ownBlock ≠ some w.heap.size) := fun q => by have := (HO0.out _ (Or.inr (Or.inr (Or.inl q)))).2; omega
  refine AllReadyH.cons rfl (fun K hK => ?_) (AllReadyH.cons rfl (fun K hK => ?_) AllReadyH.nil)
  · go_simp
    refine hK.out _ _ (HALL.out _ HA5.out) (fun hHeld1 => ?_)
    clear hK K hHeld1
    refine wpAnyH_ready (rs := [6]) (by kernel_rfl) (by simp) ?_
    refine AllReadyH.cons rfl (fun K hK => ?_) AllReadyH.nil
    go_simp
    refine (ed_own e.at' e.old e.new _ (by have := e.ho; omega) (by have := e.hn; omega)).mono ?_
    rintro q w6 ⟨rfl, hb6⟩
    have hg6 := grown_of_below hb6
    have HH6 := hidden (HH5.out.grown hg6)
    have HA6 := hidden (HA5.out.but hg6 (by simp) (by simp))
    have HH7 := hidden (HH6.out.grown (grownBy_alloc w6 (.cells #[.int .i64 e.at', .string e.old, .string e.new] 57)))
    have HA7 := hidden (HA6.out.but (grownBy_alloc w6 (.cells #[.int .i64 e.at', .string e.old, .string e.new] 57)) (by simp) (by simp))
    have HK7 := hidden (HK5.out.trans (O' := HOwn H O ov dv uv dn ud) (kept_none (grown_tr hg6 (grownBy_alloc w6 (.cells #[.int .i64 e.at', .string e.old, .string e.new] 57)))) (fun _ _ h => h))
    have c16 : w6.cell? ⟨H, 1, none⟩ = some ov := HH6.out.cells.2.1
    clear hb6 hg6
    refine hK.out _ _ (HALL.out _ HA6.out) (fun hHeld2 => ?_)
    clear hK K hHeld
    refine wpAnyH_ready (rs := [7]) (by kernel_rfl) (by simp) ?_
    refine AllReadyH.cons rfl (fun K hK => ?_) AllReadyH.nil
    go_simp
    refine hK.out _ _ (HALL.out _ HA7.out) (fun hHeld3 => ?_)
    clear hK K hHeld2
    refine wpAnyH_ready (rs := [8]) (by kernel_rfl) (by simp) ?_
    refine AllReadyH.cons rfl (fun K hK => ?_) AllReadyH.nil
    refine step_append_wh rfl (.tmp 39) (.tmp 42) 49 rfl B 57 i0 (.agg #[.int .i64 0, .string ⟨#[]⟩, .string ⟨#[]⟩]) 3 40 Try.underlying49 hi hz0 hz1 hz2 rfl (by decide) ov op.length (rowE op) (by simp [Act.eval]) HH7.out.orow ⟨w6.heap.size, 0, none⟩ 1 1 e.row (by simp [Act.eval]) rfl (cells3e _ _ _ _) (by intro u hu; simp [Ed.row] at hu; rcases hu with rfl | rfl | rfl <;> rfl) (by have := Hop.out; unfold maxLen; omega) (by have := Hop.out; omega) HH7.out.bs (by decide) ?_
    intro v' w8 hr8 hg8 hw8
    obtain ⟨hP, hKp, hO9⟩ := HH7.out.push hr8.out hg8.out hw8.out
    have HP9 := hidden hP
    have HK9 : Hid (Kept (HOwn H O ov dv uv dn ud) w ((w8.setCell ⟨H, 1, none⟩ v').setCell ⟨H, 3, none⟩ (.slice none 0 0))) := HK7.out.trans hKp (fun i hi ho => HOwn.text ho (HO5.out i hi))
    have HO9 : Hid (∀ k, k < w.heap.size → HOwn H O5 v' dv (.slice none 0 0) dn [] k → HOwn H O ov dv uv dn ud k) := fun k hk ho => HOwn.text (hO9 k (Nat.lt_of_lt_of_le hk HK7.out.size) ho) (HO5.out k hk)
    have HA8 := hidden (HA7.out.but hg8.out (row_head HH7.out.orow HH7.out.head (by decide)) Hnb.out)
    have hd8 : w8.heap[H]? = some (.cells #[.pointer (some ⟨T, 0, none⟩), ov, dv, uv] 91 (0, 0)) := (hg8.out.block H HH7.out.lt (fun e => row_head HH7.out.orow HH7.out.head (by decide) e.symm)).trans HH7.out.head
    have e1 : w8.cell? ⟨H, 1, none⟩ = some ov := by simp only [World.cell?, hd8]; rfl
    have e3 : w8.cell? ⟨H, 3, none⟩ = some uv := by simp only [World.cell?, hd8]; rfl
    have f1 : w8.frozen? ⟨H, 1, none⟩ = false := frozen_of_row w8 H 1 _ 91 hd8
    have f3 : w8.frozen? ⟨H, 3, none⟩ = false := frozen_of_row w8 H 3 _ 91 hd8
    obtain ⟨va, vc, rfl⟩ := row_slice hr8.out
    have HA9 := hidden (HA8.out.set1 (.slice va (op.length + 1) vc))
    clear hr8 hg8 hw8 hP hKp hO9 hd8
    refine hK.out _ _ (HALL.out _ HA8.out) (fun hHeld4 => ?_)
    clear hK K
    refine take_dst 9 (some 44) rfl rfl (by kernel_rfl) (by kernel_rfl) (by kernel_rfl) (fun _ _ _ h => h) (v := ?_) (Or.inl ⟨by rfl, ?_⟩) (by assumption) ?_
    rotate_left
    · (intro w hSw; (try dsimp only at hSw); go_simp; try with_reducible rfl)
    simp only [Act.put, List.setIfInBounds_toArray]
    refine take_dst 10 (some 45) rfl rfl (by kernel_rfl) (by kernel_rfl) (by kernel_rfl) (fun _ _ _ h => h) (v := ?_) (Or.inl ⟨by rfl, ?_⟩) (by assumption) ?_
    rotate_left
    · (intro w hSw; (try dsimp only at hSw); go_simp; try with_reducible rfl)
    simp only [Act.put]
    refine wpAnyH_ready (rs := [11]) (by kernel_rfl) (by simp) ?_
    refine AllReadyH.cons rfl (fun K hK => ?_) AllReadyH.nil
    go_simp
    refine hK.out _ _ (HALL.out _ HA9.out) (fun hHeld5 => ?_)
    clear hK K
    refine wpAnyH_done (by kernel_rfl) ?_ _
    clear hHeld4 hHeld5 HALL HA8 HA9
    go_wp2_with fail
    go_ret
    exact ⟨rfl, O5, _, HP9.out, HK9.out, HO9.out⟩
  · go_simp
    refine (ed_own e.at' e.old e.new _ (by have := e.ho; omega) (by have := e.hn; omega)).mono ?_
    rintro q w6 ⟨rfl, hb6⟩
    have hg6 := grown_of_below hb6
    have HH6 := hidden (HH5.out.grown hg6)
    have HA6 := hidden (HA5.out.but hg6 (by simp) (by simp))
    have HH7 := hidden (HH6.out.grown (grownBy_alloc w6 (.cells #[.int .i64 e.at', .string e.old, .string e.new] 57)))
    have HA7 := hidden (HA6.out.but (grownBy_alloc w6 (.cells #[.int .i64 e.at', .string e.old, .string e.new] 57)) (by simp) (by simp))
    have HK7 := hidden (HK5.out.trans (O' := HOwn H O ov dv uv dn ud) (kept_none (grown_tr hg6 (grownBy_alloc w6 (.cells #[.int .i64 e.at', .string e.old, .string e.new] 57)))) (fun _ _ h => h))
    have c16 : w6.cell? ⟨H, 1, none⟩ = some ov := HH6.out.cells.2.1
    clear hb6 hg6
    refine hK.out _ _ (HALL.out _ HA6.out) (fun hHeld2 => ?_)
    clear hK K hHeld
    refine wpAnyH_ready (rs := [4, 7]) (by kernel_rfl) (by simp) ?_
    refine AllReadyH.cons rfl (fun K hK => ?_) (AllReadyH.cons rfl (fun K hK => ?_) AllReadyH.nil)
    · go_simp
      refine hK.out _ _ (HALL.out _ HA6.out) (fun hHeldx => ?_)
      clear hK K hHeldx
      refine wpAnyH_ready (rs := [7]) (by kernel_rfl) (by simp) ?_
      refine AllReadyH.cons rfl (fun K hK => ?_) AllReadyH.nil
      go_simp
      refine hK.out _ _ (HALL.out _ HA7.out) (fun hHeld3 => ?_)
      clear hK K hHeld2
      refine wpAnyH_ready (rs := [8]) (by kernel_rfl) (by simp) ?_
      refine AllReadyH.cons rfl (fun K hK => ?_) AllReadyH.nil
      refine step_append_wh rfl (.tmp 39) (.tmp 42) 49 rfl B 57 i0 (.agg #[.int .i64 0, .string ⟨#[]⟩, .string ⟨#[]⟩]) 3 40 Try.underlying49 hi hz0 hz1 hz2 rfl (by decide) ov op.length (rowE op) (by simp [Act.eval]) HH7.out.orow ⟨w6.heap.size, 0, none⟩ 1 1 e.row (by simp [Act.eval]) rfl (cells3e _ _ _ _) (by intro u hu; simp [Ed.row] at hu; rcases hu with rfl | rfl | rfl <;> rfl) (by have := Hop.out; unfold maxLen; omega) (by have := Hop.out; omega) HH7.out.bs (by decide) ?_
      intro v' w8 hr8 hg8 hw8
      obtain ⟨hP, hKp, hO9⟩ := HH7.out.push hr8.out hg8.out hw8.out
      have HP9 := hidden hP
      have HK9 : Hid (Kept (HOwn H O ov dv uv dn ud) w ((w8.setCell ⟨H, 1, none⟩ v').setCell ⟨H, 3, none⟩ (.slice none 0 0))) := HK7.out.trans hKp (fun i hi ho => HOwn.text ho (HO5.out i hi))
      have HO9 : Hid (∀ k, k < w.heap.size → HOwn H O5 v' dv (.slice none 0 0) dn [] k → HOwn H O ov dv uv dn ud k) := fun k hk ho => HOwn.text (hO9 k (Nat.lt_of_lt_of_le hk HK7.out.size) ho) (HO5.out k hk)
      have HA8 := hidden (HA7.out.but hg8.out (row_head HH7.out.orow HH7.out.head (by decide)) Hnb.out)
      have hd8 : w8.heap[H]? = some (.cells #[.pointer (some ⟨T, 0, none⟩), ov, dv, uv] 91 (0, 0)) := (hg8.out.block H HH7.out.lt (fun e => row_head HH7.out.orow HH7.out.head (by decide) e.symm)).trans HH7.out.head
      have e1 : w8.cell? ⟨H, 1, none⟩ = some ov := by simp only [World.cell?, hd8]; rfl
      have e3 : w8.cell? ⟨H, 3, none⟩ = some uv := by simp only [World.cell?, hd8]; rfl
      have f1 : w8.frozen? ⟨H, 1, none⟩ = false := frozen_of_row w8 H 1 _ 91 hd8
      have f3 : w8.frozen? ⟨H, 3, none⟩ = false := frozen_of_row w8 H 3 _ 91 hd8
      obtain ⟨va, vc, rfl⟩ := row_slice hr8.out
      have HA9 := hidden (HA8.out.set1 (.slice va (op.length + 1) vc))
      clear hr8 hg8 hw8 hP hKp hO9 hd8
      refine hK.out _ _ (HALL.out _ HA8.out) (fun hHeld4 => ?_)
      clear hK K
      refine take_dst 9 (some 44) rfl rfl (by kernel_rfl) (by kernel_rfl) (by kernel_rfl) (fun _ _ _ h => h) (v := ?_) (Or.inl ⟨by rfl, ?_⟩) (by assumption) ?_
      rotate_left
      · (intro w hSw; (try dsimp only at hSw); go_simp; try with_reducible rfl)
      simp only [Act.put, List.setIfInBounds_toArray]
      refine take_dst 10 (some 45) rfl rfl (by kernel_rfl) (by kernel_rfl) (by kernel_rfl) (fun _ _ _ h => h) (v := ?_) (Or.inl ⟨by rfl, ?_⟩) (by assumption) ?_
      rotate_left
      · (intro w hSw; (try dsimp only at hSw); go_simp; try with_reducible rfl)
      simp only [Act.put]
      refine wpAnyH_ready (rs := [11]) (by kernel_rfl) (by simp) ?_
      refine AllReadyH.cons rfl (fun K hK => ?_) AllReadyH.nil
      go_simp
      refine hK.out _ _ (HALL.out _ HA9.out) (fun hHeld5 => ?_)
      clear hK K
      refine wpAnyH_done (by kernel_rfl) ?_ _
      clear hHeld4 hHeld5 HALL HA8 HA9
      go_wp2_with fail
      go_ret
      exact ⟨rfl, O5, _, HP9.out, HK9.out, HO9.out⟩
    · go_simp
      refine hK.out _ _ (HALL.out _ HA7.out) (fun hHeld3 => ?_)
      clear hK K hHeld2
      have c17 := HH7.out.cells.2.1
      refine wpAnyH_ready (rs := [4]) (by kernel_rfl) (by simp) ?_
      refine AllReadyH.cons rfl (fun K hK => ?_) AllReadyH.nil
      go_simp
      refine hK.out _ _ (HALL.out _ HA7.out) (fun hHeldx => ?_)
      clear hK K hHeldx hHeld3 c17
      refine wpAnyH_ready (rs := [8]) (by kernel_rfl) (by simp) ?_
      refine AllReadyH.cons rfl (fun K hK => ?_) AllReadyH.nil
      refine step_append_wh rfl (.tmp 39) (.tmp 42) 49 rfl B 57 i0 (.agg #[.int .i64 0, .string ⟨#[]⟩, .string ⟨#[]⟩]) 3 40 Try.underlying49 hi hz0 hz1 hz2 rfl (by decide) ov op.length (rowE op) (by simp [Act.eval]) HH7.out.orow ⟨w6.heap.size, 0, none⟩ 1 1 e.row (by simp [Act.eval]) rfl (cells3e _ _ _ _) (by intro u hu; simp [Ed.row] at hu; rcases hu with rfl | rfl | rfl <;> rfl) (by have := Hop.out; unfold maxLen; omega) (by have := Hop.out; omega) HH7.out.bs (by decide) ?_
      intro v' w8 hr8 hg8 hw8
      obtain ⟨hP, hKp, hO9⟩ := HH7.out.push hr8.out hg8.out hw8.out
      have HP9 := hidden hP
      have HK9 : Hid (Kept (HOwn H O ov dv uv dn ud) w ((w8.setCell ⟨H, 1, none⟩ v').setCell ⟨H, 3, none⟩ (.slice none 0 0))) := HK7.out.trans hKp (fun i hi ho => HOwn.text ho (HO5.out i hi))
      have HO9 : Hid (∀ k, k < w.heap.size → HOwn H O5 v' dv (.slice none 0 0) dn [] k → HOwn H O ov dv uv dn ud k) := fun k hk ho => HOwn.text (hO9 k (Nat.lt_of_lt_of_le hk HK7.out.size) ho) (HO5.out k hk)
      have HA8 := hidden (HA7.out.but hg8.out (row_head HH7.out.orow HH7.out.head (by decide)) Hnb.out)
      have hd8 : w8.heap[H]? = some (.cells #[.pointer (some ⟨T, 0, none⟩), ov, dv, uv] 91 (0, 0)) := (hg8.out.block H HH7.out.lt (fun e => row_head HH7.out.orow HH7.out.head (by decide) e.symm)).trans HH7.out.head
      have e1 : w8.cell? ⟨H, 1, none⟩ = some ov := by simp only [World.cell?, hd8]; rfl
      have e3 : w8.cell? ⟨H, 3, none⟩ = some uv := by simp only [World.cell?, hd8]; rfl
      have f1 : w8.frozen? ⟨H, 1, none⟩ = false := frozen_of_row w8 H 1 _ 91 hd8
      have f3 : w8.frozen? ⟨H, 3, none⟩ = false := frozen_of_row w8 H 3 _ 91 hd8
      obtain ⟨va, vc, rfl⟩ := row_slice hr8.out
      have HA9 := hidden (HA8.out.set1 (.slice va (op.length + 1) vc))
      clear hr8 hg8 hw8 hP hKp hO9 hd8
      refine hK.out _ _ (HALL.out _ HA8.out) (fun hHeld4 => ?_)
      clear hK K
      refine take_dst 9 (some 44) rfl rfl (by kernel_rfl) (by kernel_rfl) (by kernel_rfl) (fun _ _ _ h => h) (v := ?_) (Or.inl ⟨by rfl, ?_⟩) (by assumption) ?_
      rotate_left
      · (intro w hSw; (try dsimp only at hSw); go_simp; try with_reducible rfl)
      simp only [Act.put, List.setIfInBounds_toArray]
      refine take_dst 10 (some 45) rfl rfl (by kernel_rfl) (by kernel_rfl) (by kernel_rfl) (fun _ _ _ h => h) (v := ?_) (Or.inl ⟨by rfl, ?_⟩) (by assumption) ?_
      rotate_left
      · (intro w hSw; (try dsimp only at hSw); go_simp; try with_reducible rfl)
      simp only [Act.put]
      refine wpAnyH_ready (rs := [11]) (by kernel_rfl) (by simp) ?_
      refine AllReadyH.cons rfl (fun K hK => ?_) AllReadyH.nil
      go_simp
      refine hK.out _ _ (HALL.out _ HA9.out) (fun hHeld5 => ?_)
      clear hK K
      refine wpAnyH_done (by kernel_rfl) ?_ _
      clear hHeld4 hHeld5 HALL HA8 HA9
      go_wp2_with fail
      go_ret
      exact ⟨rfl, O5, _, HP9.out, HK9.out, HO9.out⟩
end
end Go.Proofs.PlatenPiece
