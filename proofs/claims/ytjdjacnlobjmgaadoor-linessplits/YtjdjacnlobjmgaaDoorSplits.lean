/- LinesSplits is true of any bytes: lines, joined by line ends, are the text, and none has an end in it. No condition but the card's own: Go's two tables of unicode/utf8 hold what the library's text lays. -/
import Derived.Test.YtjdjacnlobjmgaaDoorArgs
import Derived.Test.YtjdjacnlobjmgaaDoorLnQ
import Derived.Test.YtjdjacnlobjmgaaDoorCards
import Derived.Test.YtjdjacnlobjmgaaDoorTie
namespace Go.Proofs.YtjdjacnlobjmgaaDoor.Splits
open Go.ChangeShapes Go.WideShapes Go.ChangeAt Go.ChangeMaps Go.RowKit Go.Proofs.PlatenGlyph Go.Proofs.PlatenLines
set_option linter.unusedVariables false

set_option maxHeartbeats 400000 in
theorem long (v : Value) (n : Nat) (f : Nat → Nat) (w : World) (hv : IsRow w v n f) (hn : 300 < n) (hT : Lib.Utf8Tabs 1 2 w) :
    Calls Tryd.prog 6 #[v] w fun e w' => e = .returned (.bool true) ∧ Below w.heap.size w w' := by
  have cs := rows_any w hT
  have HT := hidden hT
  obtain ⟨ea, cap, rfl⟩ := hv.len
  have hnz : 300 < (n : Int) := by omega
  clear hv
  clear hT
  go_enter Tryd.func6, Tryd.ntmps6
  go_wp2_with fail
  refine cs.mono ?_
  rintro e w1 ⟨rfl, hb⟩
  have cs2 := rows_any w1 (tabs_below HT.out hb)
  go_wp2_with fail
  refine cs2.mono ?_
  rintro e w2 ⟨rfl, hb2⟩
  go_wp2
  go_ret
  exact ⟨rfl, hb.trans (hb2.mono hb.size)⟩

theorem kept_cell {W w' : World} {p : Addr} {x : Value} (hb : Below W.heap.size W w') (h : W.cell? p = some x) : w'.cell? p = some x := by
  rw [hb.cell (World.block_lt_of_cell? _ _ h)]; exact h
theorem hown_keep {w w' : World} {base : Nat} {v : Value} {n : Nat} {xs : List Value} (h : w.ownsRow base 5 1 v n xs) (hb : Below w.heap.size w w') : w'.ownsRow base 5 1 v n xs := by
  refine h.kept (row := none) ⟨hb.os, hb.tape, hb.output, hb.size, fun k hk _ => hb.block k hk⟩ ?_
  cases v.ownBlock <;> simp

theorem isRow_congr {w : World} {v : Value} {n : Nat} {f g : Nat → Nat} (h : IsRow w v n f) (hg : ∀ j, g j < 256) (he : ∀ j, j < n → f j = g j) : IsRow w v n g := by
  obtain ⟨_, hn, h⟩ := h
  refine ⟨hg, hn, ?_⟩
  rcases h with h | ⟨b, off, cap, hv, hcap, hc⟩
  · exact Or.inl h
  · exact Or.inr ⟨b, off, cap, hv, hcap, fun j hj => by rw [← he j hj]; exact hc j hj⟩
set_option maxHeartbeats 400000 in
theorem same_none (a a' : Option Addr) (c c' : Nat) (w : World) : Calls Tryd.prog 21 #[.slice a 0 c, .slice a' 0 c'] w fun e w' => e = .returned (.bool true) ∧ w' = w := by
  go_enter Tryd.func21, Tryd.ntmps21
  go_wp2
  go_loop [5] (fun i => i = .int .i64 0) (fun _ => 0)
  case atStart => rfl
  case round =>
    subst hrel
    go_wp2
    go_ret
    exact ⟨rfl, rfl⟩
theorem same_any (v v' : Value) (n : Nat) (f : Nat → Nat) (w : World) (hn : n ≤ 100000) (h : IsRow w v n f) (h' : IsRow w v' n f) :
    Calls Tryd.prog 21 #[v, v'] w fun e w' => e = .returned (.bool true) ∧ Below w.heap.size w w' := by
  rcases Nat.eq_zero_or_pos n with rfl | h0
  · obtain ⟨a, c, rfl⟩ := h.len
    obtain ⟨a', c', rfl⟩ := h'.len
    exact (same_none a a' c c' w).mono fun e w' ⟨he, hw⟩ => ⟨he, hw ▸ Below.refl _ _⟩
  · rcases h.2.2 with ⟨_, _, rfl⟩ | ⟨b, off, cap, rfl, _, hc⟩
    · omega
    · rcases h'.2.2 with ⟨_, _, rfl⟩ | ⟨b', off', cap', rfl, _, hc'⟩
      · omega
      · exact same_rows b off cap b' off' cap' n f w hn h.1 hc hc'

theorem take_dst {P : Program} {md : Region.Mode} {ops : Array Oper} {Q : Exit → Act → World → Prop} {S : World → Prop} (i : Nat) (d : Option Nat) {oi : Oper} {v : Value} {fuel : Nat} {listed : Array Bool} {a : Act} {w : World} (hi : ops[i]? = some oi) (hd : oi.dst = d)
    (hs : Region.noSelect ops = true) (hf : Region.free md ops listed i = true) (hr : (Region.ready md ops listed).contains i = true)
    (hQ : ∀ c a w, Q (.panic c) (a.put d v) w → Q (.panic c) a w) (hy : YieldsIf P ops S oi v a) (hS : S w)
    (h : wpAnyH P md ops Q S fuel (listed.setIfInBounds i true) (a.put d v) w) : wpAnyH P md ops Q S (fuel + 1) listed a w := by
  subst hd
  exact wpAnyH_take hi hs hf hr hQ hy hS h

set_option maxHeartbeats 4000000 in
set_option maxRecDepth 100000 in
theorem row (f : Nat → Nat) (b off n cap : Nat) (w : World) (hf : ∀ j, f j < 256) (hcap : n ≤ cap) (hc : Cells w b off n f) (hn : n ≤ 300) (hT : Lib.Utf8Tabs 1 2 w) :
    Calls Tryd.prog 6 #[.slice (some ⟨b, off, none⟩) n cap] w fun e w' => e = .returned (.bool true) ∧ Below w.heap.size w w' := by
  have cs := rows_any w hT
  have hnz : ¬ (300 < (n : Int)) := by omega
  obtain ⟨i0, hi, hz0, hz1, hz2⟩ := info_parts info5
  have hle := lc_le f n
  have hv : IsRow w (.slice (some ⟨b, off, none⟩) n cap) n f := ⟨hf, by omega, Or.inr ⟨b, off, cap, rfl, hcap, hc⟩⟩
  have HV := hidden hv
  have HF := hidden hf
  have HC := hidden hc
  clear hT hv hf hc
  go_enter Tryd.func6, Tryd.ntmps6
  go_wp2_with fail
  refine cs.mono ?_
  rintro e w1 ⟨rfl, hb1⟩
  have c1 := split_any _ n f w1 (by omega) (HV.out.below hb1)
  have Hb1 := hidden hb1
  clear cs hb1
  go_wp2_with fail
  refine c1.mono ?_
  rintro e w2 ⟨l, rfl, ⟨g, gcap, hbg, rfl, hgc, hl⟩, hb2⟩
  have Hb2 := hidden (Hb1.out.trans (hb2.mono Hb1.out.size))
  have c2 := count_any _ n f w2 (by omega) (HV.out.below Hb2.out)
  have HL := hidden hl
  clear hb2 c1 hl
  go_wp2_with fail
  refine c2.mono ?_
  rintro e w3 ⟨rfl, hb3⟩
  have Hb3 := hidden (Hb2.out.trans (hb3.mono Hb2.out.size))
  have HL3 : Hid (∀ wr, Below w3.heap.size w3 wr → ∀ i, i < lc f n + 1 → wr.cell? ⟨g, i, none⟩ = some (.string (pieceB f n i))) := fun wr hw i hi => kept_cell hw (kept_cell hb3 (HL.out i hi))
  have ene : ((lc f n : Int) + 1 != ((lc f n + 1 : Nat) : Int)) = false := by simp
  clear hb3 c2 HL
  go_wp2_with fail
  go_loopw [4, 5] (fun v i wr => ∃ k : Nat, k ≤ lc f n + 1 ∧ i = .int .i64 (k : Nat) ∧ wr.ownsRow w3.heap.size 5 1 v (outN f n k) (bytesV (listOf f (outN f n k))) ∧ Below w3.heap.size w3 wr) (fun _ i _ => lc f n + 1 - (intOf i).toNat)
  case atStart => exact ⟨0, Nat.zero_le _, rfl, World.ownsRow_nil _ _ _ _, Below.refl _ _⟩
  case round =>
    obtain ⟨k, hk, rfl, hown, hnx⟩ := hrel
    by_cases hlt : k < lc f n + 1
    · have hkl : k ≤ lc f n := by omega
      have hbf := beg_le_fin hkl
      have hfn := fin_le (f := f) (n := n) (k := k)
      have HSP : Hid (∀ u, Below w3.heap.size w3 u → Calls Tryd.prog 17 #[.slice (some ⟨b, off, none⟩) n cap, .int .i64 k] u fun e w' => e = .returned (.tuple #[.agg #[.int .i64 (beg f n k : Nat), .int .i64 (fin f n k - beg f n k : Nat)], .bool true]) ∧ Below u.heap.size u w') := fun u hu =>
        span_yes f b off n cap k u HF.out (by omega) hcap (HC.out.below (Hb3.out.trans (hu.mono Hb3.out.size))) hkl
      have HLI : Hid (∀ W, Below w3.heap.size w3 W → W.cell? ⟨g, k, none⟩ = some (.string (pieceB f n k))) := fun W hW => HL3.out W hW k hlt
      have HPC := hidden (piece_cells HF.out hkl)
      have HFR := hidden (piece_free HF.out hkl)
      have hps := pieceB_size f n k
      have g1 := HLI.out wr hnx
      have HNX : Hid (outN f n (k + 1) = fin f n k) := outN_succ f n k
      have HCVb : Hid (∀ cp, ∀ u, Below w3.heap.size w3 u → (convert 22 9 (.slice (some ⟨b, off + beg f n k, none⟩) (fin f n k - beg f n k) cp)).run Tryd.prog u = .ok (.string (pieceB f n k)) u) := fun cp u hu => by
        rw [sub_text]
        exact conv_text (fun j => f (beg f n k + j)) b (off + beg f n k) (fin f n k - beg f n k) cp u (fun j => HF.out _) ((((HC.out.below (Hb3.out.trans (hu.mono Hb3.out.size))).tail (beg f n k)).head (by omega)))
      have HBN := hidden hbf
      by_cases hk0 : k = 0
      · subst hk0
        have eb : beg f n 0 = 0 := rfl
        have OWN : Hid (wr.ownsRow w3.heap.size 5 1 u4 0 (bytesV (listOf f 0))) := hown
        rw [eb] at HSP HPC hbf hps HCVb
        have HCV : Hid (∀ u, Below w3.heap.size w3 u → (convert 22 9 (.slice (some ⟨b, off, none⟩) (fin f n 0 - 0) cap)).run Tryd.prog u = .ok (.string (pieceB f n 0)) u) := fun u hu => HCVb.out cap u hu
        have HBW := hidden hnx
        have hBG : (0 : Nat) ≤ 300 := by omega
        obtain ⟨F, hF⟩ : ∃ F, fin f n 0 = F := ⟨_, rfl⟩
        obtain ⟨pc, hpc⟩ : ∃ pc, pieceB f n 0 = pc := ⟨_, rfl⟩
        rw [hF] at HSP HPC hbf hfn hps HCV HNX
        rw [hpc] at HPC HFR hps g1 HLI HCV
        clear hF hpc hown hnx HCVb eb HBN
        have hk00 : ¬ ((0 : Int) > 0) := by omega
        have HSP' : Hid (∀ u, Below w3.heap.size w3 u → Calls Tryd.prog 17 #[.slice (some ⟨b, off, none⟩) n cap, .int .i64 0] u fun e w' => e = .returned (.tuple #[.agg #[.int .i64 0, .int .i64 F], .bool true]) ∧ Below u.heap.size u w') := fun u hu => HSP.out u hu
        have HCV' : Hid (∀ u, Below w3.heap.size w3 u → (convert 22 9 (.slice (some ⟨b, off, none⟩) F cap)).run Tryd.prog u = .ok (.string pc) u) := fun u hu => HCV.out u hu
        have HPS : Hid (pc.size = F) := hps
        have hps' : pc.size ≤ 300 := by omega
        have hwr : IntKind.i64.wrap (F : Int) = (F : Int) := IntWalk.i64_in _ (by omega)
        have zF1 : (F : Int) ≤ (cap : Int) := by omega
        have zF0 : (0 : Int) ≤ (F : Int) := by omega
        have zF2 : F ≤ cap := by omega
        clear HSP HCV hps
        go_wp2_with (at_builtin; refine Lib.wpList_append_own_string _ rfl _ _ 22 9 rfl w3.heap.size 5 i0 Tryd.underlying22 Tryd.underlying9 hi hz0 hz1 hz2 _ _ _ rfl OWN.out pc rfl ?e1 ?e2 ?e3 ?_)
        case e1 => unfold maxLen; omega
        case e2 => omega
        case e3 => exact HBW.out.size
        intro v' w5 hown' hgrow _
        have hb5 := below_append' HBW.out.size OWN.out HBW.out hgrow
        have Hown5 : Hid (w5.ownsRow w3.heap.size 5 1 v' F (bytesV (listOf f F))) := by
          have hq := HPS.out
          unfold Hid
          rw [← HPC.out, show F = 0 + pc.size by omega]
          simpa using hown'
        have Hb5 := hidden hb5
        clear hown' hgrow hb5 OWN HBW
        go_wp2_with fail
        refine (HSP'.out _ Hb5.out).mono ?_
        rintro e w6 ⟨rfl, hb6⟩
        have Hb6 := hidden (Hb5.out.trans (hb6.mono Hb5.out.size))
        have Hown6 := hidden (hown_keep Hown5.out hb6)
        clear hb6 Hown5
        obtain ⟨W, hW⟩ : ∃ W, w6.alloc (.cells #[.int .i64 0, .int .i64 F] 32) = W := ⟨_, rfl⟩
        have HbW : Hid (Below w3.heap.size w3 W) := by unfold Hid; rw [← hW]; exact Hb6.out.alloc Hb6.out.size _
        have HownW : Hid (W.ownsRow w3.heap.size 5 1 v' F (bytesV (listOf f F))) := by unfold Hid; rw [← hW]; exact Hown6.out.alloc _
        have hW0 : W.cell? ⟨w6.heap.size, 0, none⟩ = some (.int .i64 0) := by rw [← hW]; simp
        have hW1 : W.cell? ⟨w6.heap.size, 1, none⟩ = some (.int .i64 F) := by rw [← hW]; simp
        have hWl : W.cell? ⟨g, 0, none⟩ = some (.string pc) := HLI.out W HbW.out
        have HALL : Hid (∀ u, Rel W u → ((u.cell? ⟨w6.heap.size, 0, none⟩ = some (.int .i64 0) ∧ u.cell? ⟨w6.heap.size, 1, none⟩ = some (.int .i64 F)) ∧ u.cell? ⟨g, 0, none⟩ = some (.string pc) ∧ (convert 22 9 (.slice (some ⟨b, off, none⟩) F cap)).run Tryd.prog u = .ok (.string pc) u) ∧ Rel W u) := fun u hu =>
          ⟨⟨⟨kept_cell hu hW0, kept_cell hu hW1⟩, kept_cell hu hWl, HCV'.out u (HbW.out.trans (Below.mono hu HbW.out.size))⟩, hu⟩
        have hall := HALL.out W (Rel.refl _)
        have HE : Hid (∀ u g0 cp, Rel W u → pc.size ≤ cp → Cells u g0 0 pc.size (byt pc) → Calls Tryd.prog 13 #[.slice (some ⟨g0, 0, none⟩) pc.size cp] u fun e w' => ∃ x c, e = .returned (.slice x 0 c) ∧ Rel W w') := fun u g0 cp hu hcp hcc =>
          (ends_piece pc g0 cp u (by omega) HFR.out hcp hcc).mono fun e w' ⟨x, c, he, hb⟩ => ⟨x, c, he, hu.next hb⟩
        have hcv2 := convW_run pc
        clear hWl Hown6 Hb6 Hb5
        go_wp2_with fail
        clear hW
        refine wp_region_held_drew (S := (fun u => ((u.cell? ⟨w6.heap.size, 0, none⟩ = some (.int .i64 0) ∧ u.cell? ⟨w6.heap.size, 1, none⟩ = some (.int .i64 F)) ∧ u.cell? ⟨g, 0, none⟩ = some (.string pc) ∧ (convert 22 9 (.slice (some ⟨b, off, none⟩) F cap)).run Tryd.prog u = .ok (.string pc) u) ∧ Rel W u)) (by kernel_rfl) (HALL.out _ (Rel.drew (Rel.refl _))) (fun hHeld => ?_)
        refine take_dst 0 (some 46) rfl rfl (by kernel_rfl) (by kernel_rfl) (by kernel_rfl) (fun _ _ _ h => h) (v := ?_) (Or.inl ⟨by rfl, ?_⟩) (by assumption) ?_
        rotate_left
        · (intro w hSw; (try dsimp only at hSw); go_simp; try with_reducible rfl)
        simp only [Act.put, List.setIfInBounds_toArray, List.set_cons_zero, List.set_cons_succ]
        refine take_dst 1 (some 47) rfl rfl (by kernel_rfl) (by kernel_rfl) (by kernel_rfl) (fun _ _ _ h => h) (v := ?_) (Or.inl ⟨by rfl, ?_⟩) (by assumption) ?_
        rotate_left
        · (intro w hSw; (try dsimp only at hSw); go_simp; try with_reducible rfl)
        simp only [Act.put, List.setIfInBounds_toArray, List.set_cons_zero, List.set_cons_succ]
        refine take_dst 2 (some 48) rfl rfl (by kernel_rfl) (by kernel_rfl) (by kernel_rfl) (fun _ _ _ h => h) (v := ?_) (Or.inl ⟨by rfl, ?_⟩) (by assumption) ?_
        rotate_left
        · (intro w hSw; (try dsimp only at hSw); go_simp; try with_reducible rfl)
        simp only [Act.put, List.setIfInBounds_toArray, List.set_cons_zero, List.set_cons_succ]
        refine take_dst 3 (some 49) rfl rfl (by kernel_rfl) (by kernel_rfl) (by kernel_rfl) (fun _ _ _ h => h) (v := ?_) (Or.inl ⟨by rfl, ?_⟩) (by assumption) ?_
        rotate_left
        · (intro w hSw; (try dsimp only at hSw); go_simp; try with_reducible rfl)
        simp only [Act.put, List.setIfInBounds_toArray, List.set_cons_zero, List.set_cons_succ]
        refine take_dst 4 (some 50) rfl rfl (by kernel_rfl) (by kernel_rfl) (by kernel_rfl) (fun _ _ _ h => h) (v := ?_) (Or.inl ⟨by rfl, ?_⟩) (by assumption) ?_
        rotate_left
        · (intro w hSw; (try dsimp only at hSw); go_simp; try with_reducible rfl)
        simp only [Act.put, List.setIfInBounds_toArray, List.set_cons_zero, List.set_cons_succ]
        refine take_dst 5 (some 51) rfl rfl (by kernel_rfl) (by kernel_rfl) (by kernel_rfl) (fun _ _ _ h => h) (v := ?_) (Or.inl ⟨by rfl, ?_⟩) (by assumption) ?_
        rotate_left
        · (intro w hSw; (try dsimp only at hSw); go_simp; try with_reducible rfl)
        simp only [Act.put, List.setIfInBounds_toArray, List.set_cons_zero, List.set_cons_succ]
        refine take_dst 6 (some 52) rfl rfl (by kernel_rfl) (by kernel_rfl) (by kernel_rfl) (fun _ _ _ h => h) (v := ?_) (Or.inl ⟨by rfl, ?_⟩) (by assumption) ?_
        rotate_left
        · (intro w hSw; (try dsimp only at hSw); go_simp; try with_reducible rfl)
        simp only [Act.put, List.setIfInBounds_toArray, List.set_cons_zero, List.set_cons_succ]
        refine take_dst 7 (some 53) rfl rfl (by kernel_rfl) (by kernel_rfl) (by kernel_rfl) (fun _ _ _ h => h) (v := ?_) (Or.inl ⟨by rfl, ?_⟩) (by assumption) ?_
        rotate_left
        · (intro w hSw; (try dsimp only at hSw); go_simp; try with_reducible rfl)
        simp only [Act.put, List.setIfInBounds_toArray, List.set_cons_zero, List.set_cons_succ]
        refine take_dst 8 (some 54) rfl rfl (by kernel_rfl) (by kernel_rfl) (by kernel_rfl) (fun _ _ _ h => h) (v := ?_) (Or.inl ⟨by rfl, ?_⟩) (by assumption) ?_
        rotate_left
        · (intro w hSw; (try dsimp only at hSw); go_simp; try with_reducible rfl)
        simp only [Act.put, List.setIfInBounds_toArray, List.set_cons_zero, List.set_cons_succ]
        refine take_dst 9 (some 55) rfl rfl (by kernel_rfl) (by kernel_rfl) (by kernel_rfl) (fun _ _ _ h => h) (v := ?_) (Or.inl ⟨by rfl, ?_⟩) (by assumption) ?_
        rotate_left
        · (intro w hSw; (try dsimp only at hSw); go_simp; try with_reducible rfl)
        simp only [Act.put, List.setIfInBounds_toArray, List.set_cons_zero, List.set_cons_succ]
        refine take_dst 10 (some 56) rfl rfl (by kernel_rfl) (by kernel_rfl) (by kernel_rfl) (fun _ _ _ h => h) (v := ?_) (Or.inl ⟨by rfl, ?_⟩) (by assumption) ?_
        rotate_left
        · (intro w hSw; (try dsimp only at hSw); go_simp; try with_reducible rfl)
        simp only [Act.put, List.setIfInBounds_toArray, List.set_cons_zero, List.set_cons_succ]
        refine take_dst 11 (some 57) rfl rfl (by kernel_rfl) (by kernel_rfl) (by kernel_rfl) (fun _ _ _ h => h) (v := ?_) (Or.inl ⟨by rfl, ?_⟩) (by assumption) ?_
        rotate_left
        · (intro w hSw; (try dsimp only at hSw); go_simp; try with_reducible rfl)
        simp only [Act.put, List.setIfInBounds_toArray, List.set_cons_zero, List.set_cons_succ]
        refine take_dst 12 (some 58) rfl rfl (by kernel_rfl) (by kernel_rfl) (by kernel_rfl) (fun _ _ _ h => h) (v := ?_) (Or.inl ⟨by rfl, ?_⟩) (by assumption) ?_
        rotate_left
        · (intro w hSw; (try dsimp only at hSw); go_simp; try with_reducible rfl)
        simp only [Act.put, List.setIfInBounds_toArray, List.set_cons_zero, List.set_cons_succ]
        refine take_dst 13 (some 59) rfl rfl (by kernel_rfl) (by kernel_rfl) (by kernel_rfl) (fun _ _ _ h => h) (v := ?_) (Or.inl ⟨by rfl, ?_⟩) (by assumption) ?_
        rotate_left
        · (intro w hSw; (try dsimp only at hSw); go_simp; try with_reducible rfl)
        simp only [Act.put, List.setIfInBounds_toArray, List.set_cons_zero, List.set_cons_succ]
        refine take_dst 14 (some 60) rfl rfl (by kernel_rfl) (by kernel_rfl) (by kernel_rfl) (fun _ _ _ h => h) (v := ?_) (Or.inl ⟨by rfl, ?_⟩) (by assumption) ?_
        rotate_left
        · (intro w hSw; (try dsimp only at hSw); go_simp; try with_reducible rfl)
        simp only [Act.put, List.setIfInBounds_toArray, List.set_cons_zero, List.set_cons_succ]
        refine take_dst 15 (some 61) rfl rfl (by kernel_rfl) (by kernel_rfl) (by kernel_rfl) (fun _ _ _ h => h) (v := ?_) (Or.inl ⟨by rfl, ?_⟩) (by assumption) ?_
        rotate_left
        · (intro w hSw; (try dsimp only at hSw); go_simp; try with_reducible rfl)
        simp only [Act.put, List.setIfInBounds_toArray, List.set_cons_zero, List.set_cons_succ]
        refine take_dst 16 (some 62) rfl rfl (by kernel_rfl) (by kernel_rfl) (by kernel_rfl) (fun _ _ _ h => h) (v := ?_) (Or.inl ⟨by rfl, ?_⟩) (by assumption) ?_
        rotate_left
        · (intro w hSw; (try dsimp only at hSw); go_simp; try with_reducible rfl)
        simp only [Act.put, List.setIfInBounds_toArray, List.set_cons_zero, List.set_cons_succ]
        refine take_dst 17 (some 63) rfl rfl (by kernel_rfl) (by kernel_rfl) (by kernel_rfl) (fun _ _ _ h => h) (v := ?_) (Or.inl ⟨by rfl, ?_⟩) (by assumption) ?_
        rotate_left
        · (intro w hSw; (try dsimp only at hSw); go_simp; try with_reducible rfl)
        simp only [Act.put, List.setIfInBounds_toArray, List.set_cons_zero, List.set_cons_succ]
        refine take_dst 18 (some 64) rfl rfl (by kernel_rfl) (by kernel_rfl) (by kernel_rfl) (fun _ _ _ h => h) (v := ?_) (Or.inl ⟨by rfl, ?_⟩) (by assumption) ?_
        rotate_left
        · (intro w hSw; (try dsimp only at hSw); go_simp; try with_reducible rfl)
        simp only [Act.put, List.setIfInBounds_toArray, List.set_cons_zero, List.set_cons_succ]
        refine take_dst 19 (some 65) rfl rfl (by kernel_rfl) (by kernel_rfl) (by kernel_rfl) (fun _ _ _ h => h) (v := ?_) (Or.inl ⟨by rfl, ?_⟩) (by assumption) ?_
        rotate_left
        · (intro w hSw; (try dsimp only at hSw); go_simp; try with_reducible rfl)
        simp only [Act.put, List.setIfInBounds_toArray, List.set_cons_zero, List.set_cons_succ]
        refine take_dst 20 (some 66) rfl rfl (by kernel_rfl) (by kernel_rfl) (by kernel_rfl) (fun _ _ _ h => h) (v := ?_) (Or.inl ⟨by rfl, ?_⟩) (by assumption) ?_
        rotate_left
        · (intro w hSw; (try dsimp only at hSw); go_simp; try with_reducible rfl)
        simp only [Act.put, List.setIfInBounds_toArray, List.set_cons_zero, List.set_cons_succ]
        refine take_dst 21 (some 67) rfl rfl (by kernel_rfl) (by kernel_rfl) (by kernel_rfl) (fun _ _ _ h => h) (v := ?_) (Or.inl ⟨by rfl, ?_⟩) (by assumption) ?_
        rotate_left
        · (intro w hSw; (try dsimp only at hSw); go_simp; try with_reducible rfl)
        simp only [Act.put, List.setIfInBounds_toArray, List.set_cons_zero, List.set_cons_succ]
        refine take_dst 22 (some 68) rfl rfl (by kernel_rfl) (by kernel_rfl) (by kernel_rfl) (fun _ _ _ h => h) (v := ?_) (Or.inl ⟨by rfl, ?_⟩) (by assumption) ?_
        rotate_left
        · (intro w hSw; (try dsimp only at hSw); go_simp; try with_reducible rfl)
        simp only [Act.put, List.setIfInBounds_toArray, List.set_cons_zero, List.set_cons_succ]
        refine take_dst 23 (some 69) rfl rfl (by kernel_rfl) (by kernel_rfl) (by kernel_rfl) (fun _ _ _ h => h) (v := ?_) (Or.inl ⟨by rfl, ?_⟩) (by assumption) ?_
        rotate_left
        · (intro w hSw; (try dsimp only at hSw); go_simp; try with_reducible rfl)
        simp only [Act.put, List.setIfInBounds_toArray, List.set_cons_zero, List.set_cons_succ]
        refine wpAnyH_ready (rs := [24]) (by kernel_rfl) (by simp) ?_
        refine AllReadyH.cons rfl (fun K hK => ?_) AllReadyH.nil
        go_simp
        refine hK.out _ _ (HALL.out _ (Rel.conv (hHeld.2) pc)) (fun hHeld2 => ?_)
        clear hK K
        refine wpAnyH_ready (rs := [25]) (by kernel_rfl) (by simp) ?_
        refine AllReadyH.cons rfl (fun K hK => ?_) AllReadyH.nil
        go_simp
        refine (HE.out _ _ _ (Rel.conv (Rel.drew (Rel.refl W)) pc) (convCap_ge W.drew pc) (convW_cells pc W.drew)).mono ?_
        rintro e w7 ⟨x7, c7, rfl, r7⟩
        refine hK.out _ _ (HALL.out _ r7) (fun hHeld3 => ?_)
        clear hK K hHeld hHeld2
        refine take_dst 26 (some 72) rfl rfl (by kernel_rfl) (by kernel_rfl) (by kernel_rfl) (fun _ _ _ h => h) (v := ?_) (Or.inl ⟨by rfl, ?_⟩) (by assumption) ?_
        rotate_left
        · (intro w hSw; (try dsimp only at hSw); go_simp; try with_reducible rfl)
        simp only [Act.put, List.setIfInBounds_toArray, List.set_cons_zero, List.set_cons_succ]
        refine take_dst 27 (some 73) rfl rfl (by kernel_rfl) (by kernel_rfl) (by kernel_rfl) (fun _ _ _ h => h) (v := ?_) (Or.inl ⟨by rfl, ?_⟩) (by assumption) ?_
        rotate_left
        · (intro w hSw; (try dsimp only at hSw); go_simp; try with_reducible rfl)
        simp only [Act.put, List.setIfInBounds_toArray, List.set_cons_zero, List.set_cons_succ]
        refine take_dst 28 (some 74) rfl rfl (by kernel_rfl) (by kernel_rfl) (by kernel_rfl) (fun _ _ _ h => h) (v := ?_) (Or.inl ⟨by rfl, ?_⟩) (by assumption) ?_
        rotate_left
        · (intro w hSw; (try dsimp only at hSw); go_simp; try with_reducible rfl)
        simp only [Act.put, List.setIfInBounds_toArray, List.set_cons_zero, List.set_cons_succ]
        refine wpAnyH_done (by kernel_rfl) ?_ _
        have HFIN : Hid (w7.ownsRow w3.heap.size 5 1 v' (outN f n (0 + 1)) (bytesV (listOf f (outN f n (0 + 1)))) ∧ Below w3.heap.size w3 w7) := by
          unfold Hid
          rw [HNX.out]
          exact ⟨hown_keep HownW.out r7, HbW.out.trans (Below.mono r7 HbW.out.size)⟩
        clear hHeld3 HALL HE hall hcv2 r7 HownW HbW hW0 hW1
        go_wp2
        go_roundw
        case rel => exact ⟨0 + 1, by omega, by go_num, HFIN.out.1, HFIN.out.2⟩
        case measure => simp [intOf]
      · have hk1 : 0 < k := by omega
        obtain ⟨et, eb⟩ := listOf_ten hk1 hkl
        have Het := hidden et
        have hout := outN f n k
        obtain ⟨O, hO⟩ : ∃ O, outN f n k = O := ⟨_, rfl⟩
        rw [hO] at hown eb Het
        obtain ⟨BG, hBG⟩ : ∃ BG, beg f n k = BG := ⟨_, rfl⟩
        obtain ⟨M, hM⟩ : ∃ M, fin f n k - beg f n k = M := ⟨_, rfl⟩
        obtain ⟨F, hF⟩ : ∃ F, fin f n k = F := ⟨_, rfl⟩
        obtain ⟨pc, hpc⟩ : ∃ pc, pieceB f n k = pc := ⟨_, rfl⟩
        have HCV0 : Hid (M = 0 → ∀ u, (convert 22 9 (.slice (some ⟨b, off, none⟩) 0 0)).run Tryd.prog u = .ok (.string pc) u) := fun h0 u => by
          rw [← hpc, sub_text, hM, h0]
          exact conv_none (some ⟨b, off, none⟩) _ u
        rw [hM] at HSP hps HCVb
        rw [hBG] at HSP HPC hbf eb Het HCVb
        rw [hF] at HPC hbf hfn HNX
        rw [hpc] at HPC HFR hps g1 HLI HCVb
        have hFM : F = BG + M := by rw [hBG, hF] at hM; omega
        have HPS : Hid (pc.size = M) := hps
        have hps' : pc.size ≤ 300 := by omega
        have HFM : Hid (F = BG + M) := hFM
        have hFb : F ≤ 300 := by omega
        have hMb : M ≤ 300 := by omega
        have hBb : BG ≤ 300 := by omega
        have hB1 : 0 < BG := by omega
        have hOb : O ≤ 300 := by omega
        have HEB : Hid (BG = O + 1) := eb
        clear hM hF hpc HBN et hO hBG hout hps eb hFM
        have hkz : ((k : Int) > 0) := by omega
        have hki : (k : Int) < (lc f n : Int) + 1 := by omega
        have hki0 : (0 : Int) ≤ (k : Int) := by omega
        have hwr : IntKind.i64.wrap ((BG : Int) + (M : Int)) = (BG : Int) + (M : Int) := IntWalk.i64_in _ (by omega)
        have htn : ((BG : Int) + (M : Int)).toNat = BG + M := by omega
        have q1 : (BG : Int) ≤ (BG : Int) + (M : Int) := by omega
        have q2 : (BG : Int) + (M : Int) ≤ (cap : Int) := by have := HFM.out; omega
        have q3 : (0 : Int) ≤ (BG : Int) + (M : Int) := by omega
        have q4 : BG + M ≤ cap := by omega
        have q5 : ¬ BG = 0 := by omega
        go_wp2_with (at_builtin; refine wpList_append_own _ rfl _ _ 22 rfl w3.heap.size 5 i0 (.int .u8 0) 1 1 Tryd.underlying22 hi hz0 hz1 hz2 rfl (by decide) _ _ _ rfl (hown.alloc _) ⟨wr.heap.size, 0, none⟩ 1 1 [.int .u8 10] rfl rfl ?c1 ?c2 ?c3 ?c4 ?c5 ?_)
        case c1 =>
          intro j u hj
          match j, hj with
          | 0, hj => simp at hj; subst hj; simp [Addr.add]
        case c2 => intro u hu; simp at hu; subst hu; rfl
        case c3 => unfold maxLen; omega
        case c4 => omega
        case c5 => have := hnx.size; simp; omega
        intro v1 w4 hown4 hgrow4 _
        have HBW := hidden (below_append hnx.size hown hnx hgrow4)
        have OWN : Hid (w4.ownsRow w3.heap.size 5 1 v1 BG (bytesV (listOf f BG))) := by
          unfold Hid
          rw [← Het.out, HEB.out, bytesV_app]
          exact hown4
        have g4 := HLI.out w4 HBW.out
        clear hown4 hgrow4 hown hnx g1
        by_cases hcB : cap = BG
        · have hM0 : M = 0 := by omega
          have HCV : Hid (∀ u, Below w3.heap.size w3 u → (convert 22 9 (.slice (some ⟨b, off, none⟩) 0 0)).run Tryd.prog u = .ok (.string pc) u) := fun u _ => HCV0.out hM0 u
          have hcB' : BG = cap := hcB.symm
          have hwr0 : IntKind.i64.wrap (BG : Int) = (BG : Int) := IntWalk.i64_in _ (by omega)
          have HSP' : Hid (∀ u, Below w3.heap.size w3 u → Calls Tryd.prog 17 #[.slice (some ⟨b, off, none⟩) n cap, .int .i64 k] u fun e w' => e = .returned (.tuple #[.agg #[.int .i64 BG, .int .i64 0], .bool true]) ∧ Below u.heap.size u w') := fun u hu => by
            have := HSP.out u hu
            rw [hM0] at this
            exact this
          clear HCV0 HCVb hwr htn q1 q2 q3 q4 HSP hcB
          subst hM0
          subst hcB'
          go_wp2_with (at_builtin; refine Lib.wpList_append_own_string _ rfl _ _ 22 9 rfl w3.heap.size 5 i0 Tryd.underlying22 Tryd.underlying9 hi hz0 hz1 hz2 _ _ _ rfl OWN.out pc rfl ?e1 ?e2 ?e3 ?_)
          case e1 => unfold maxLen; omega
          case e2 => omega
          case e3 => exact HBW.out.size
          intro v' w5 hown' hgrow _
          have hb5 := below_append' HBW.out.size OWN.out HBW.out hgrow
          have Hown5 : Hid (w5.ownsRow w3.heap.size 5 1 v' F (bytesV (listOf f F))) := by
            have hq := HPS.out
            have hq2 := HFM.out
            unfold Hid
            rw [← HPC.out, show F = BG + pc.size by omega]
            simpa using hown'
          have Hb5 := hidden hb5
          clear hown' hgrow hb5 OWN HBW
          go_wp2_with fail
          refine (HSP'.out _ Hb5.out).mono ?_
          rintro e w6 ⟨rfl, hb6⟩
          have Hb6 := hidden (Hb5.out.trans (hb6.mono Hb5.out.size))
          have Hown6 := hidden (hown_keep Hown5.out hb6)
          clear hb6 Hown5
          obtain ⟨W, hW⟩ : ∃ W, w6.alloc (.cells #[.int .i64 BG, .int .i64 0] 32) = W := ⟨_, rfl⟩
          have HbW : Hid (Below w3.heap.size w3 W) := by unfold Hid; rw [← hW]; exact Hb6.out.alloc Hb6.out.size _
          have HownW : Hid (W.ownsRow w3.heap.size 5 1 v' F (bytesV (listOf f F))) := by unfold Hid; rw [← hW]; exact Hown6.out.alloc _
          have hW0 : W.cell? ⟨w6.heap.size, 0, none⟩ = some (.int .i64 BG) := by rw [← hW]; simp
          have hW1 : W.cell? ⟨w6.heap.size, 1, none⟩ = some (.int .i64 0) := by rw [← hW]; simp
          have hWl : W.cell? ⟨g, k, none⟩ = some (.string pc) := HLI.out W HbW.out
          have HALL : Hid (∀ u, Rel W u → ((u.cell? ⟨w6.heap.size, 0, none⟩ = some (.int .i64 BG) ∧ u.cell? ⟨w6.heap.size, 1, none⟩ = some (.int .i64 0)) ∧ u.cell? ⟨g, k, none⟩ = some (.string pc) ∧ (convert 22 9 (.slice (some ⟨b, off, none⟩) 0 0)).run Tryd.prog u = .ok (.string pc) u) ∧ Rel W u) := fun u hu =>
            ⟨⟨⟨kept_cell hu hW0, kept_cell hu hW1⟩, kept_cell hu hWl, HCV.out u (HbW.out.trans (Below.mono hu HbW.out.size))⟩, hu⟩
          have hall := HALL.out W (Rel.refl _)
          have HE : Hid (∀ u g0 cp, Rel W u → pc.size ≤ cp → Cells u g0 0 pc.size (byt pc) → Calls Tryd.prog 13 #[.slice (some ⟨g0, 0, none⟩) pc.size cp] u fun e w' => ∃ x c, e = .returned (.slice x 0 c) ∧ Rel W w') := fun u g0 cp hu hcp hcc =>
            (ends_piece pc g0 cp u (by omega) HFR.out hcp hcc).mono fun e w' ⟨x, c, he, hb⟩ => ⟨x, c, he, hu.next hb⟩
          have hcv2 := convW_run pc
          clear hWl Hown6 Hb6 Hb5
          have HW := hidden hW
          clear hW
          go_wp2_with fail
          rw [HW.out]
          refine wp_region_held_drew (S := (fun u => ((u.cell? ⟨w6.heap.size, 0, none⟩ = some (.int .i64 BG) ∧ u.cell? ⟨w6.heap.size, 1, none⟩ = some (.int .i64 0)) ∧ u.cell? ⟨g, k, none⟩ = some (.string pc) ∧ (convert 22 9 (.slice (some ⟨b, off, none⟩) 0 0)).run Tryd.prog u = .ok (.string pc) u) ∧ Rel W u)) (by kernel_rfl) (HALL.out _ (Rel.drew (Rel.refl _))) (fun hHeld => ?_)
          refine take_dst 0 (some 46) rfl rfl (by kernel_rfl) (by kernel_rfl) (by kernel_rfl) (fun _ _ _ h => h) (v := ?_) (Or.inl ⟨by rfl, ?_⟩) (by assumption) ?_
          rotate_left
          · (intro w hSw; (try dsimp only at hSw); go_simp; try with_reducible rfl)
          simp only [Act.put, List.setIfInBounds_toArray, List.set_cons_zero, List.set_cons_succ]
          refine take_dst 1 (some 47) rfl rfl (by kernel_rfl) (by kernel_rfl) (by kernel_rfl) (fun _ _ _ h => h) (v := ?_) (Or.inl ⟨by rfl, ?_⟩) (by assumption) ?_
          rotate_left
          · (intro w hSw; (try dsimp only at hSw); go_simp; try with_reducible rfl)
          simp only [Act.put, List.setIfInBounds_toArray, List.set_cons_zero, List.set_cons_succ]
          refine take_dst 2 (some 48) rfl rfl (by kernel_rfl) (by kernel_rfl) (by kernel_rfl) (fun _ _ _ h => h) (v := ?_) (Or.inl ⟨by rfl, ?_⟩) (by assumption) ?_
          rotate_left
          · (intro w hSw; (try dsimp only at hSw); go_simp; try with_reducible rfl)
          simp only [Act.put, List.setIfInBounds_toArray, List.set_cons_zero, List.set_cons_succ]
          refine take_dst 3 (some 49) rfl rfl (by kernel_rfl) (by kernel_rfl) (by kernel_rfl) (fun _ _ _ h => h) (v := ?_) (Or.inl ⟨by rfl, ?_⟩) (by assumption) ?_
          rotate_left
          · (intro w hSw; (try dsimp only at hSw); go_simp; try with_reducible rfl)
          simp only [Act.put, List.setIfInBounds_toArray, List.set_cons_zero, List.set_cons_succ]
          refine take_dst 4 (some 50) rfl rfl (by kernel_rfl) (by kernel_rfl) (by kernel_rfl) (fun _ _ _ h => h) (v := ?_) (Or.inl ⟨by rfl, ?_⟩) (by assumption) ?_
          rotate_left
          · (intro w hSw; (try dsimp only at hSw); go_simp; try with_reducible rfl)
          simp only [Act.put, List.setIfInBounds_toArray, List.set_cons_zero, List.set_cons_succ]
          refine take_dst 5 (some 51) rfl rfl (by kernel_rfl) (by kernel_rfl) (by kernel_rfl) (fun _ _ _ h => h) (v := ?_) (Or.inl ⟨by rfl, ?_⟩) (by assumption) ?_
          rotate_left
          · (intro w hSw; (try dsimp only at hSw); go_simp; try with_reducible rfl)
          simp only [Act.put, List.setIfInBounds_toArray, List.set_cons_zero, List.set_cons_succ]
          refine take_dst 6 (some 52) rfl rfl (by kernel_rfl) (by kernel_rfl) (by kernel_rfl) (fun _ _ _ h => h) (v := ?_) (Or.inl ⟨by rfl, ?_⟩) (by assumption) ?_
          rotate_left
          · (intro w hSw; (try dsimp only at hSw); go_simp; try with_reducible rfl)
          simp only [Act.put, List.setIfInBounds_toArray, List.set_cons_zero, List.set_cons_succ]
          refine take_dst 7 (some 53) rfl rfl (by kernel_rfl) (by kernel_rfl) (by kernel_rfl) (fun _ _ _ h => h) (v := ?_) (Or.inl ⟨by rfl, ?_⟩) (by assumption) ?_
          rotate_left
          · (intro w hSw; (try dsimp only at hSw); go_simp; try with_reducible rfl)
          simp only [Act.put, List.setIfInBounds_toArray, List.set_cons_zero, List.set_cons_succ]
          refine take_dst 8 (some 54) rfl rfl (by kernel_rfl) (by kernel_rfl) (by kernel_rfl) (fun _ _ _ h => h) (v := ?_) (Or.inl ⟨by rfl, ?_⟩) (by assumption) ?_
          rotate_left
          · (intro w hSw; (try dsimp only at hSw); go_simp; try with_reducible rfl)
          simp only [Act.put, List.setIfInBounds_toArray, List.set_cons_zero, List.set_cons_succ]
          refine take_dst 9 (some 55) rfl rfl (by kernel_rfl) (by kernel_rfl) (by kernel_rfl) (fun _ _ _ h => h) (v := ?_) (Or.inl ⟨by rfl, ?_⟩) (by assumption) ?_
          rotate_left
          · (intro w hSw; (try dsimp only at hSw); go_simp; try with_reducible rfl)
          simp only [Act.put, List.setIfInBounds_toArray, List.set_cons_zero, List.set_cons_succ]
          refine take_dst 10 (some 56) rfl rfl (by kernel_rfl) (by kernel_rfl) (by kernel_rfl) (fun _ _ _ h => h) (v := ?_) (Or.inl ⟨by rfl, ?_⟩) (by assumption) ?_
          rotate_left
          · (intro w hSw; (try dsimp only at hSw); go_simp; try with_reducible rfl)
          simp only [Act.put, List.setIfInBounds_toArray, List.set_cons_zero, List.set_cons_succ]
          refine take_dst 11 (some 57) rfl rfl (by kernel_rfl) (by kernel_rfl) (by kernel_rfl) (fun _ _ _ h => h) (v := ?_) (Or.inl ⟨by rfl, ?_⟩) (by assumption) ?_
          rotate_left
          · (intro w hSw; (try dsimp only at hSw); go_simp; try with_reducible rfl)
          simp only [Act.put, List.setIfInBounds_toArray, List.set_cons_zero, List.set_cons_succ]
          refine take_dst 12 (some 58) rfl rfl (by kernel_rfl) (by kernel_rfl) (by kernel_rfl) (fun _ _ _ h => h) (v := ?_) (Or.inl ⟨by rfl, ?_⟩) (by assumption) ?_
          rotate_left
          · (intro w hSw; (try dsimp only at hSw); go_simp; try with_reducible rfl)
          simp only [Act.put, List.setIfInBounds_toArray, List.set_cons_zero, List.set_cons_succ]
          refine take_dst 13 (some 59) rfl rfl (by kernel_rfl) (by kernel_rfl) (by kernel_rfl) (fun _ _ _ h => h) (v := ?_) (Or.inl ⟨by rfl, ?_⟩) (by assumption) ?_
          rotate_left
          · (intro w hSw; (try dsimp only at hSw); go_simp; try with_reducible rfl)
          simp only [Act.put, List.setIfInBounds_toArray, List.set_cons_zero, List.set_cons_succ]
          refine take_dst 14 (some 60) rfl rfl (by kernel_rfl) (by kernel_rfl) (by kernel_rfl) (fun _ _ _ h => h) (v := ?_) (Or.inl ⟨by rfl, ?_⟩) (by assumption) ?_
          rotate_left
          · (intro w hSw; (try dsimp only at hSw); go_simp; try with_reducible rfl)
          simp only [Act.put, List.setIfInBounds_toArray, List.set_cons_zero, List.set_cons_succ]
          refine take_dst 15 (some 61) rfl rfl (by kernel_rfl) (by kernel_rfl) (by kernel_rfl) (fun _ _ _ h => h) (v := ?_) (Or.inl ⟨by rfl, ?_⟩) (by assumption) ?_
          rotate_left
          · (intro w hSw; (try dsimp only at hSw); go_simp; try with_reducible rfl)
          simp only [Act.put, List.setIfInBounds_toArray, List.set_cons_zero, List.set_cons_succ]
          refine take_dst 16 (some 62) rfl rfl (by kernel_rfl) (by kernel_rfl) (by kernel_rfl) (fun _ _ _ h => h) (v := ?_) (Or.inl ⟨by rfl, ?_⟩) (by assumption) ?_
          rotate_left
          · (intro w hSw; (try dsimp only at hSw); go_simp; try with_reducible rfl)
          simp only [Act.put, List.setIfInBounds_toArray, List.set_cons_zero, List.set_cons_succ]
          refine take_dst 17 (some 63) rfl rfl (by kernel_rfl) (by kernel_rfl) (by kernel_rfl) (fun _ _ _ h => h) (v := ?_) (Or.inl ⟨by rfl, ?_⟩) (by assumption) ?_
          rotate_left
          · (intro w hSw; (try dsimp only at hSw); go_simp; try with_reducible rfl)
          simp only [Act.put, List.setIfInBounds_toArray, List.set_cons_zero, List.set_cons_succ]
          refine take_dst 18 (some 64) rfl rfl (by kernel_rfl) (by kernel_rfl) (by kernel_rfl) (fun _ _ _ h => h) (v := ?_) (Or.inl ⟨by rfl, ?_⟩) (by assumption) ?_
          rotate_left
          · (intro w hSw; (try dsimp only at hSw); go_simp; try with_reducible rfl)
          simp only [Act.put, List.setIfInBounds_toArray, List.set_cons_zero, List.set_cons_succ]
          refine take_dst 19 (some 65) rfl rfl (by kernel_rfl) (by kernel_rfl) (by kernel_rfl) (fun _ _ _ h => h) (v := ?_) (Or.inl ⟨by rfl, ?_⟩) (by assumption) ?_
          rotate_left
          · (intro w hSw; (try dsimp only at hSw); go_simp; try with_reducible rfl)
          simp only [Act.put, List.setIfInBounds_toArray, List.set_cons_zero, List.set_cons_succ]
          refine take_dst 20 (some 66) rfl rfl (by kernel_rfl) (by kernel_rfl) (by kernel_rfl) (fun _ _ _ h => h) (v := ?_) (Or.inl ⟨by rfl, ?_⟩) (by assumption) ?_
          rotate_left
          · (intro w hSw; (try dsimp only at hSw); go_simp; try with_reducible rfl)
          simp only [Act.put, List.setIfInBounds_toArray, List.set_cons_zero, List.set_cons_succ]
          refine take_dst 21 (some 67) rfl rfl (by kernel_rfl) (by kernel_rfl) (by kernel_rfl) (fun _ _ _ h => h) (v := ?_) (Or.inl ⟨by rfl, ?_⟩) (by assumption) ?_
          rotate_left
          · (intro w hSw; (try dsimp only at hSw); go_simp; try with_reducible rfl)
          simp only [Act.put, List.setIfInBounds_toArray, List.set_cons_zero, List.set_cons_succ]
          refine take_dst 22 (some 68) rfl rfl (by kernel_rfl) (by kernel_rfl) (by kernel_rfl) (fun _ _ _ h => h) (v := ?_) (Or.inl ⟨by rfl, ?_⟩) (by assumption) ?_
          rotate_left
          · (intro w hSw; (try dsimp only at hSw); go_simp; try with_reducible rfl)
          simp only [Act.put, List.setIfInBounds_toArray, List.set_cons_zero, List.set_cons_succ]
          refine take_dst 23 (some 69) rfl rfl (by kernel_rfl) (by kernel_rfl) (by kernel_rfl) (fun _ _ _ h => h) (v := ?_) (Or.inl ⟨by rfl, ?_⟩) (by assumption) ?_
          rotate_left
          · (intro w hSw; (try dsimp only at hSw); go_simp; try with_reducible rfl)
          simp only [Act.put, List.setIfInBounds_toArray, List.set_cons_zero, List.set_cons_succ]
          refine wpAnyH_ready (rs := [24]) (by kernel_rfl) (by simp) ?_
          refine AllReadyH.cons rfl (fun K hK => ?_) AllReadyH.nil
          go_simp
          refine hK.out _ _ (HALL.out _ (Rel.conv (hHeld.2) pc)) (fun hHeld2 => ?_)
          clear hK K
          refine wpAnyH_ready (rs := [25]) (by kernel_rfl) (by simp) ?_
          refine AllReadyH.cons rfl (fun K hK => ?_) AllReadyH.nil
          go_simp
          refine (HE.out _ _ _ (Rel.conv (Rel.drew (Rel.refl W)) pc) (convCap_ge W.drew pc) (convW_cells pc W.drew)).mono ?_
          rintro e w7 ⟨x7, c7, rfl, r7⟩
          refine hK.out _ _ (HALL.out _ r7) (fun hHeld3 => ?_)
          clear hK K hHeld hHeld2
          refine take_dst 26 (some 72) rfl rfl (by kernel_rfl) (by kernel_rfl) (by kernel_rfl) (fun _ _ _ h => h) (v := ?_) (Or.inl ⟨by rfl, ?_⟩) (by assumption) ?_
          rotate_left
          · (intro w hSw; (try dsimp only at hSw); go_simp; try with_reducible rfl)
          simp only [Act.put, List.setIfInBounds_toArray, List.set_cons_zero, List.set_cons_succ]
          refine take_dst 27 (some 73) rfl rfl (by kernel_rfl) (by kernel_rfl) (by kernel_rfl) (fun _ _ _ h => h) (v := ?_) (Or.inl ⟨by rfl, ?_⟩) (by assumption) ?_
          rotate_left
          · (intro w hSw; (try dsimp only at hSw); go_simp; try with_reducible rfl)
          simp only [Act.put, List.setIfInBounds_toArray, List.set_cons_zero, List.set_cons_succ]
          refine take_dst 28 (some 74) rfl rfl (by kernel_rfl) (by kernel_rfl) (by kernel_rfl) (fun _ _ _ h => h) (v := ?_) (Or.inl ⟨by rfl, ?_⟩) (by assumption) ?_
          rotate_left
          · (intro w hSw; (try dsimp only at hSw); go_simp; try with_reducible rfl)
          simp only [Act.put, List.setIfInBounds_toArray, List.set_cons_zero, List.set_cons_succ]
          refine wpAnyH_done (by kernel_rfl) ?_ _
          have HFIN : Hid (w7.ownsRow w3.heap.size 5 1 v' (outN f n (k + 1)) (bytesV (listOf f (outN f n (k + 1)))) ∧ Below w3.heap.size w3 w7) := by
            unfold Hid
            rw [HNX.out]
            exact ⟨hown_keep HownW.out r7, HbW.out.trans (Below.mono r7 HbW.out.size)⟩
          clear hHeld3 HALL HE hall hcv2 r7 HownW HbW hW0 hW1
          go_wp2
          go_roundw
          case rel => exact ⟨k + 1, by omega, by go_num, HFIN.out.1, HFIN.out.2⟩
          case measure => simp [intOf]; omega
        · have HCV : Hid (∀ u, Below w3.heap.size w3 u → (convert 22 9 (.slice (some ⟨b, off + BG, none⟩) M (cap - BG))).run Tryd.prog u = .ok (.string pc) u) := fun u hu => HCVb.out _ u hu
          clear HCV0 HCVb
          go_wp2_with (at_builtin; refine Lib.wpList_append_own_string _ rfl _ _ 22 9 rfl w3.heap.size 5 i0 Tryd.underlying22 Tryd.underlying9 hi hz0 hz1 hz2 _ _ _ rfl OWN.out pc rfl ?e1 ?e2 ?e3 ?_)
          case e1 => unfold maxLen; omega
          case e2 => omega
          case e3 => exact HBW.out.size
          intro v' w5 hown' hgrow _
          have hb5 := below_append' HBW.out.size OWN.out HBW.out hgrow
          have Hown5 : Hid (w5.ownsRow w3.heap.size 5 1 v' F (bytesV (listOf f F))) := by
            have hq := HPS.out
            have hq2 := HFM.out
            unfold Hid
            rw [← HPC.out, show F = BG + pc.size by omega]
            simpa using hown'
          have Hb5 := hidden hb5
          clear hown' hgrow hb5 OWN HBW
          go_wp2_with fail
          refine (HSP.out _ Hb5.out).mono ?_
          rintro e w6 ⟨rfl, hb6⟩
          have Hb6 := hidden (Hb5.out.trans (hb6.mono Hb5.out.size))
          have Hown6 := hidden (hown_keep Hown5.out hb6)
          clear hb6 Hown5
          obtain ⟨W, hW⟩ : ∃ W, w6.alloc (.cells #[.int .i64 BG, .int .i64 M] 32) = W := ⟨_, rfl⟩
          have HbW : Hid (Below w3.heap.size w3 W) := by unfold Hid; rw [← hW]; exact Hb6.out.alloc Hb6.out.size _
          have HownW : Hid (W.ownsRow w3.heap.size 5 1 v' F (bytesV (listOf f F))) := by unfold Hid; rw [← hW]; exact Hown6.out.alloc _
          have hW0 : W.cell? ⟨w6.heap.size, 0, none⟩ = some (.int .i64 BG) := by rw [← hW]; simp
          have hW1 : W.cell? ⟨w6.heap.size, 1, none⟩ = some (.int .i64 M) := by rw [← hW]; simp
          have hWl : W.cell? ⟨g, k, none⟩ = some (.string pc) := HLI.out W HbW.out
          have HALL : Hid (∀ u, Rel W u → ((u.cell? ⟨w6.heap.size, 0, none⟩ = some (.int .i64 BG) ∧ u.cell? ⟨w6.heap.size, 1, none⟩ = some (.int .i64 M)) ∧ u.cell? ⟨g, k, none⟩ = some (.string pc) ∧ (convert 22 9 (.slice (some ⟨b, off + BG, none⟩) M (cap - BG))).run Tryd.prog u = .ok (.string pc) u) ∧ Rel W u) := fun u hu =>
            ⟨⟨⟨kept_cell hu hW0, kept_cell hu hW1⟩, kept_cell hu hWl, HCV.out u (HbW.out.trans (Below.mono hu HbW.out.size))⟩, hu⟩
          have hall := HALL.out W (Rel.refl _)
          have HE : Hid (∀ u g0 cp, Rel W u → pc.size ≤ cp → Cells u g0 0 pc.size (byt pc) → Calls Tryd.prog 13 #[.slice (some ⟨g0, 0, none⟩) pc.size cp] u fun e w' => ∃ x c, e = .returned (.slice x 0 c) ∧ Rel W w') := fun u g0 cp hu hcp hcc =>
            (ends_piece pc g0 cp u (by omega) HFR.out hcp hcc).mono fun e w' ⟨x, c, he, hb⟩ => ⟨x, c, he, hu.next hb⟩
          have hcv2 := convW_run pc
          clear hWl Hown6 Hb6 Hb5
          go_wp2_with fail
          clear hW
          refine wp_region_held_drew (S := (fun u => ((u.cell? ⟨w6.heap.size, 0, none⟩ = some (.int .i64 BG) ∧ u.cell? ⟨w6.heap.size, 1, none⟩ = some (.int .i64 M)) ∧ u.cell? ⟨g, k, none⟩ = some (.string pc) ∧ (convert 22 9 (.slice (some ⟨b, off + BG, none⟩) M (cap - BG))).run Tryd.prog u = .ok (.string pc) u) ∧ Rel W u)) (by kernel_rfl) (HALL.out _ (Rel.drew (Rel.refl _))) (fun hHeld => ?_)
          refine take_dst 0 (some 46) rfl rfl (by kernel_rfl) (by kernel_rfl) (by kernel_rfl) (fun _ _ _ h => h) (v := ?_) (Or.inl ⟨by rfl, ?_⟩) (by assumption) ?_
          rotate_left
          · (intro w hSw; (try dsimp only at hSw); go_simp; try with_reducible rfl)
          simp only [Act.put, List.setIfInBounds_toArray, List.set_cons_zero, List.set_cons_succ]
          refine take_dst 1 (some 47) rfl rfl (by kernel_rfl) (by kernel_rfl) (by kernel_rfl) (fun _ _ _ h => h) (v := ?_) (Or.inl ⟨by rfl, ?_⟩) (by assumption) ?_
          rotate_left
          · (intro w hSw; (try dsimp only at hSw); go_simp; try with_reducible rfl)
          simp only [Act.put, List.setIfInBounds_toArray, List.set_cons_zero, List.set_cons_succ]
          refine take_dst 2 (some 48) rfl rfl (by kernel_rfl) (by kernel_rfl) (by kernel_rfl) (fun _ _ _ h => h) (v := ?_) (Or.inl ⟨by rfl, ?_⟩) (by assumption) ?_
          rotate_left
          · (intro w hSw; (try dsimp only at hSw); go_simp; try with_reducible rfl)
          simp only [Act.put, List.setIfInBounds_toArray, List.set_cons_zero, List.set_cons_succ]
          refine take_dst 3 (some 49) rfl rfl (by kernel_rfl) (by kernel_rfl) (by kernel_rfl) (fun _ _ _ h => h) (v := ?_) (Or.inl ⟨by rfl, ?_⟩) (by assumption) ?_
          rotate_left
          · (intro w hSw; (try dsimp only at hSw); go_simp; try with_reducible rfl)
          simp only [Act.put, List.setIfInBounds_toArray, List.set_cons_zero, List.set_cons_succ]
          refine take_dst 4 (some 50) rfl rfl (by kernel_rfl) (by kernel_rfl) (by kernel_rfl) (fun _ _ _ h => h) (v := ?_) (Or.inl ⟨by rfl, ?_⟩) (by assumption) ?_
          rotate_left
          · (intro w hSw; (try dsimp only at hSw); go_simp; try with_reducible rfl)
          simp only [Act.put, List.setIfInBounds_toArray, List.set_cons_zero, List.set_cons_succ]
          refine take_dst 5 (some 51) rfl rfl (by kernel_rfl) (by kernel_rfl) (by kernel_rfl) (fun _ _ _ h => h) (v := ?_) (Or.inl ⟨by rfl, ?_⟩) (by assumption) ?_
          rotate_left
          · (intro w hSw; (try dsimp only at hSw); go_simp; try with_reducible rfl)
          simp only [Act.put, List.setIfInBounds_toArray, List.set_cons_zero, List.set_cons_succ]
          refine take_dst 6 (some 52) rfl rfl (by kernel_rfl) (by kernel_rfl) (by kernel_rfl) (fun _ _ _ h => h) (v := ?_) (Or.inl ⟨by rfl, ?_⟩) (by assumption) ?_
          rotate_left
          · (intro w hSw; (try dsimp only at hSw); go_simp; try with_reducible rfl)
          simp only [Act.put, List.setIfInBounds_toArray, List.set_cons_zero, List.set_cons_succ]
          refine take_dst 7 (some 53) rfl rfl (by kernel_rfl) (by kernel_rfl) (by kernel_rfl) (fun _ _ _ h => h) (v := ?_) (Or.inl ⟨by rfl, ?_⟩) (by assumption) ?_
          rotate_left
          · (intro w hSw; (try dsimp only at hSw); go_simp; try with_reducible rfl)
          simp only [Act.put, List.setIfInBounds_toArray, List.set_cons_zero, List.set_cons_succ]
          refine take_dst 8 (some 54) rfl rfl (by kernel_rfl) (by kernel_rfl) (by kernel_rfl) (fun _ _ _ h => h) (v := ?_) (Or.inl ⟨by rfl, ?_⟩) (by assumption) ?_
          rotate_left
          · (intro w hSw; (try dsimp only at hSw); go_simp; try with_reducible rfl)
          simp only [Act.put, List.setIfInBounds_toArray, List.set_cons_zero, List.set_cons_succ]
          refine take_dst 9 (some 55) rfl rfl (by kernel_rfl) (by kernel_rfl) (by kernel_rfl) (fun _ _ _ h => h) (v := ?_) (Or.inl ⟨by rfl, ?_⟩) (by assumption) ?_
          rotate_left
          · (intro w hSw; (try dsimp only at hSw); go_simp; try with_reducible rfl)
          simp only [Act.put, List.setIfInBounds_toArray, List.set_cons_zero, List.set_cons_succ]
          refine take_dst 10 (some 56) rfl rfl (by kernel_rfl) (by kernel_rfl) (by kernel_rfl) (fun _ _ _ h => h) (v := ?_) (Or.inl ⟨by rfl, ?_⟩) (by assumption) ?_
          rotate_left
          · (intro w hSw; (try dsimp only at hSw); go_simp; try with_reducible rfl)
          simp only [Act.put, List.setIfInBounds_toArray, List.set_cons_zero, List.set_cons_succ]
          refine take_dst 11 (some 57) rfl rfl (by kernel_rfl) (by kernel_rfl) (by kernel_rfl) (fun _ _ _ h => h) (v := ?_) (Or.inl ⟨by rfl, ?_⟩) (by assumption) ?_
          rotate_left
          · (intro w hSw; (try dsimp only at hSw); go_simp; try with_reducible rfl)
          simp only [Act.put, List.setIfInBounds_toArray, List.set_cons_zero, List.set_cons_succ]
          refine take_dst 12 (some 58) rfl rfl (by kernel_rfl) (by kernel_rfl) (by kernel_rfl) (fun _ _ _ h => h) (v := ?_) (Or.inl ⟨by rfl, ?_⟩) (by assumption) ?_
          rotate_left
          · (intro w hSw; (try dsimp only at hSw); go_simp; try with_reducible rfl)
          simp only [Act.put, List.setIfInBounds_toArray, List.set_cons_zero, List.set_cons_succ]
          refine take_dst 13 (some 59) rfl rfl (by kernel_rfl) (by kernel_rfl) (by kernel_rfl) (fun _ _ _ h => h) (v := ?_) (Or.inl ⟨by rfl, ?_⟩) (by assumption) ?_
          rotate_left
          · (intro w hSw; (try dsimp only at hSw); go_simp; try with_reducible rfl)
          simp only [Act.put, List.setIfInBounds_toArray, List.set_cons_zero, List.set_cons_succ]
          refine take_dst 14 (some 60) rfl rfl (by kernel_rfl) (by kernel_rfl) (by kernel_rfl) (fun _ _ _ h => h) (v := ?_) (Or.inl ⟨by rfl, ?_⟩) (by assumption) ?_
          rotate_left
          · (intro w hSw; (try dsimp only at hSw); go_simp; try with_reducible rfl)
          simp only [Act.put, List.setIfInBounds_toArray, List.set_cons_zero, List.set_cons_succ]
          refine take_dst 15 (some 61) rfl rfl (by kernel_rfl) (by kernel_rfl) (by kernel_rfl) (fun _ _ _ h => h) (v := ?_) (Or.inl ⟨by rfl, ?_⟩) (by assumption) ?_
          rotate_left
          · (intro w hSw; (try dsimp only at hSw); go_simp; try with_reducible rfl)
          simp only [Act.put, List.setIfInBounds_toArray, List.set_cons_zero, List.set_cons_succ]
          refine take_dst 16 (some 62) rfl rfl (by kernel_rfl) (by kernel_rfl) (by kernel_rfl) (fun _ _ _ h => h) (v := ?_) (Or.inl ⟨by rfl, ?_⟩) (by assumption) ?_
          rotate_left
          · (intro w hSw; (try dsimp only at hSw); go_simp; try with_reducible rfl)
          simp only [Act.put, List.setIfInBounds_toArray, List.set_cons_zero, List.set_cons_succ]
          refine take_dst 17 (some 63) rfl rfl (by kernel_rfl) (by kernel_rfl) (by kernel_rfl) (fun _ _ _ h => h) (v := ?_) (Or.inl ⟨by rfl, ?_⟩) (by assumption) ?_
          rotate_left
          · (intro w hSw; (try dsimp only at hSw); go_simp; try with_reducible rfl)
          simp only [Act.put, List.setIfInBounds_toArray, List.set_cons_zero, List.set_cons_succ]
          refine take_dst 18 (some 64) rfl rfl (by kernel_rfl) (by kernel_rfl) (by kernel_rfl) (fun _ _ _ h => h) (v := ?_) (Or.inl ⟨by rfl, ?_⟩) (by assumption) ?_
          rotate_left
          · (intro w hSw; (try dsimp only at hSw); go_simp; try with_reducible rfl)
          simp only [Act.put, List.setIfInBounds_toArray, List.set_cons_zero, List.set_cons_succ]
          refine take_dst 19 (some 65) rfl rfl (by kernel_rfl) (by kernel_rfl) (by kernel_rfl) (fun _ _ _ h => h) (v := ?_) (Or.inl ⟨by rfl, ?_⟩) (by assumption) ?_
          rotate_left
          · (intro w hSw; (try dsimp only at hSw); go_simp; try with_reducible rfl)
          simp only [Act.put, List.setIfInBounds_toArray, List.set_cons_zero, List.set_cons_succ]
          refine take_dst 20 (some 66) rfl rfl (by kernel_rfl) (by kernel_rfl) (by kernel_rfl) (fun _ _ _ h => h) (v := ?_) (Or.inl ⟨by rfl, ?_⟩) (by assumption) ?_
          rotate_left
          · (intro w hSw; (try dsimp only at hSw); go_simp; try with_reducible rfl)
          simp only [Act.put, List.setIfInBounds_toArray, List.set_cons_zero, List.set_cons_succ]
          refine take_dst 21 (some 67) rfl rfl (by kernel_rfl) (by kernel_rfl) (by kernel_rfl) (fun _ _ _ h => h) (v := ?_) (Or.inl ⟨by rfl, ?_⟩) (by assumption) ?_
          rotate_left
          · (intro w hSw; (try dsimp only at hSw); go_simp; try with_reducible rfl)
          simp only [Act.put, List.setIfInBounds_toArray, List.set_cons_zero, List.set_cons_succ]
          refine take_dst 22 (some 68) rfl rfl (by kernel_rfl) (by kernel_rfl) (by kernel_rfl) (fun _ _ _ h => h) (v := ?_) (Or.inl ⟨by rfl, ?_⟩) (by assumption) ?_
          rotate_left
          · (intro w hSw; (try dsimp only at hSw); go_simp; try with_reducible rfl)
          simp only [Act.put, List.setIfInBounds_toArray, List.set_cons_zero, List.set_cons_succ]
          refine take_dst 23 (some 69) rfl rfl (by kernel_rfl) (by kernel_rfl) (by kernel_rfl) (fun _ _ _ h => h) (v := ?_) (Or.inl ⟨by rfl, ?_⟩) (by assumption) ?_
          rotate_left
          · (intro w hSw; (try dsimp only at hSw); go_simp; try with_reducible rfl)
          simp only [Act.put, List.setIfInBounds_toArray, List.set_cons_zero, List.set_cons_succ]
          refine wpAnyH_ready (rs := [24]) (by kernel_rfl) (by simp) ?_
          refine AllReadyH.cons rfl (fun K hK => ?_) AllReadyH.nil
          go_simp
          refine hK.out _ _ (HALL.out _ (Rel.conv (hHeld.2) pc)) (fun hHeld2 => ?_)
          clear hK K
          refine wpAnyH_ready (rs := [25]) (by kernel_rfl) (by simp) ?_
          refine AllReadyH.cons rfl (fun K hK => ?_) AllReadyH.nil
          go_simp
          refine (HE.out _ _ _ (Rel.conv (Rel.drew (Rel.refl W)) pc) (convCap_ge W.drew pc) (convW_cells pc W.drew)).mono ?_
          rintro e w7 ⟨x7, c7, rfl, r7⟩
          refine hK.out _ _ (HALL.out _ r7) (fun hHeld3 => ?_)
          clear hK K hHeld hHeld2
          refine take_dst 26 (some 72) rfl rfl (by kernel_rfl) (by kernel_rfl) (by kernel_rfl) (fun _ _ _ h => h) (v := ?_) (Or.inl ⟨by rfl, ?_⟩) (by assumption) ?_
          rotate_left
          · (intro w hSw; (try dsimp only at hSw); go_simp; try with_reducible rfl)
          simp only [Act.put, List.setIfInBounds_toArray, List.set_cons_zero, List.set_cons_succ]
          refine take_dst 27 (some 73) rfl rfl (by kernel_rfl) (by kernel_rfl) (by kernel_rfl) (fun _ _ _ h => h) (v := ?_) (Or.inl ⟨by rfl, ?_⟩) (by assumption) ?_
          rotate_left
          · (intro w hSw; (try dsimp only at hSw); go_simp; try with_reducible rfl)
          simp only [Act.put, List.setIfInBounds_toArray, List.set_cons_zero, List.set_cons_succ]
          refine take_dst 28 (some 74) rfl rfl (by kernel_rfl) (by kernel_rfl) (by kernel_rfl) (fun _ _ _ h => h) (v := ?_) (Or.inl ⟨by rfl, ?_⟩) (by assumption) ?_
          rotate_left
          · (intro w hSw; (try dsimp only at hSw); go_simp; try with_reducible rfl)
          simp only [Act.put, List.setIfInBounds_toArray, List.set_cons_zero, List.set_cons_succ]
          refine wpAnyH_done (by kernel_rfl) ?_ _
          have HFIN : Hid (w7.ownsRow w3.heap.size 5 1 v' (outN f n (k + 1)) (bytesV (listOf f (outN f n (k + 1)))) ∧ Below w3.heap.size w3 w7) := by
            unfold Hid
            rw [HNX.out]
            exact ⟨hown_keep HownW.out r7, HbW.out.trans (Below.mono r7 HbW.out.size)⟩
          clear hHeld3 HALL HE hall hcv2 r7 HownW HbW hW0 hW1
          go_wp2
          go_roundw
          case rel => exact ⟨k + 1, by omega, by go_num, HFIN.out.1, HFIN.out.2⟩
          case measure => simp [intOf]; omega
    · obtain rfl : k = lc f n + 1 := by omega
      rw [outN_succ, fin_last] at hown
      have hs : IsRow wr u4 n f := by
        have h := isRow_own (fun c hc => listOf_mem HF.out n c hc) (by rw [listOf_len]; omega) (by rw [listOf_len]; exact hown)
        rw [listOf_len] at h
        exact isRow_congr h HF.out (fun j hj => listOf_getD hj)
      have cS := same_any u4 (.slice (some ⟨b, off, none⟩) n cap) n f wr (by omega) hs (HV.out.below (Hb3.out.trans (hnx.mono Hb3.out.size)))
      have Hb := hidden (Hb3.out.trans (hnx.mono Hb3.out.size))
      clear hs hown hnx
      go_wp2_with fail
      refine cS.mono ?_
      rintro e w9 ⟨rfl, hb9⟩
      have Hb9 := hidden (Hb.out.trans (hb9.mono Hb.out.size))
      clear hb9 cS
      go_wp2
      go_ret
      exact ⟨rfl, Hb9.out⟩

set_option maxHeartbeats 4000000 in
set_option maxRecDepth 100000 in
theorem empty0 (f : Nat → Nat) (w : World) (hf : ∀ j, f j < 256) (hT : Lib.Utf8Tabs 1 2 w) :
    Calls Tryd.prog 6 #[.slice none 0 0] w fun e w' => e = .returned (.bool true) ∧ Below w.heap.size w w' := by
  have cs := rows_any w hT
  obtain ⟨i0, hi, hz0, hz1, hz2⟩ := info_parts info5
  have hv : IsRow w (.slice none 0 0) 0 f := ⟨hf, by omega, Or.inl ⟨_, rfl, rfl⟩⟩
  have HV := hidden hv
  have HF := hidden hf
  have hn : (0 : Nat) ≤ 300 := by omega
  clear hT hv hf
  go_enter Tryd.func6, Tryd.ntmps6
  go_wp2_with fail
  refine cs.mono ?_
  rintro e w1 ⟨rfl, hb1⟩
  have c1 := split_any _ 0 f w1 (by omega) (HV.out.below hb1)
  have Hb1 := hidden hb1
  clear cs hb1
  go_wp2_with fail
  refine c1.mono ?_
  rintro e w2 ⟨l, rfl, hl, hb2⟩
  obtain ⟨g, gcap, rfl, hgc, hl⟩ : ∃ g gcap, l = .slice (some ⟨g, 0, none⟩) 1 gcap ∧ 1 ≤ gcap ∧ w2.cell? ⟨g, 0, none⟩ = some (.string (pieceB f 0 0)) := by
    obtain ⟨g, gcap, _, rfl, hgc, hl⟩ := hl
    exact ⟨g, gcap, rfl, hgc, hl 0 (Nat.zero_lt_succ _)⟩
  have Hb2 := hidden (Hb1.out.trans (hb2.mono Hb1.out.size))
  have c2 := count_none none w2
  have HL := hidden hl
  clear hb2 c1 hl
  go_wp2_with fail
  refine c2.mono ?_
  rintro e w3 ⟨rfl, hb3⟩
  have Hb3 := hidden (Hb2.out.trans (hb3.mono Hb2.out.size))
  have HPC := hidden (piece_cells (n := 0) (k := 0) HF.out (Nat.zero_le _))
  have HFR := hidden (piece_free (n := 0) (k := 0) HF.out (Nat.zero_le _))
  have HPS := hidden (pieceB_size f 0 0)
  have HLI : Hid (∀ W, Below w3.heap.size w3 W → W.cell? ⟨g, 0, none⟩ = some (.string (pieceB f 0 0))) := fun W hW => kept_cell hW (kept_cell hb3 HL.out)
  have HCV : Hid (∀ u, Below w3.heap.size w3 u → (convert 22 9 (.slice none 0 0)).run Tryd.prog u = .ok (.string (pieceB f 0 0)) u) := fun u _ => conv_none none _ u
  have HSP : Hid (∀ u, Below w3.heap.size w3 u → Calls Tryd.prog 17 #[.slice none 0 0, .int .i64 0] u fun e w' => e = .returned (.tuple #[.agg #[.int .i64 0, .int .i64 0], .bool true]) ∧ Below u.heap.size u w') := fun u _ => span_none none u
  obtain ⟨pc, hpc⟩ : ∃ pc, pieceB f 0 0 = pc := ⟨_, rfl⟩
  rw [hpc] at HPC HFR HPS HLI HCV
  have hps' : pc.size ≤ 300 := by have h : pc.size = 0 := HPS.out; omega
  have HPS' : Hid (pc.size = 0) := HPS.out
  have hwr0 : IntKind.i64.wrap (0 : Int) = 0 := IntWalk.i64_in _ (by omega)
  have HPC' : Hid (bytesV (listOf f 0) ++ Lib.strCells pc = bytesV (listOf f 0)) := HPC.out
  clear hb3 c2 HL hpc HPC HPS
  go_wp2_with fail
  go_loopw [4, 5] (fun v i wr => ∃ k : Nat, k ≤ 1 ∧ i = .int .i64 (k : Nat) ∧ wr.ownsRow w3.heap.size 5 1 v 0 (bytesV (listOf f 0)) ∧ Below w3.heap.size w3 wr) (fun _ i _ => 1 - (intOf i).toNat)
  case atStart => exact ⟨0, Nat.zero_le _, rfl, World.ownsRow_nil _ _ _ _, Below.refl _ _⟩
  case round =>
    obtain ⟨k, hk, rfl, hown, hnx⟩ := hrel
    by_cases hk0 : k = 0
    · subst hk0
      have OWN := hidden hown
      have HBW := hidden hnx
      have g1 := HLI.out wr hnx
      clear hown hnx
      go_wp2_with (at_builtin; refine Lib.wpList_append_own_string _ rfl _ _ 22 9 rfl w3.heap.size 5 i0 Tryd.underlying22 Tryd.underlying9 hi hz0 hz1 hz2 _ _ _ rfl OWN.out pc rfl ?e1 ?e2 ?e3 ?_)
      case e1 => unfold maxLen; omega
      case e2 => omega
      case e3 => exact HBW.out.size
      intro v' w5 hown' hgrow _
      have hb5 := below_append' HBW.out.size OWN.out HBW.out hgrow
      have Hown5 : Hid (w5.ownsRow w3.heap.size 5 1 v' 0 (bytesV (listOf f 0))) := by
        have hq := HPS'.out
        unfold Hid
        rw [← HPC'.out]
        simpa [HPS'.out] using hown'
      have Hb5 := hidden hb5
      clear hown' hgrow hb5 OWN HBW
      go_wp2_with fail
      refine (HSP.out _ Hb5.out).mono ?_
      rintro e w6 ⟨rfl, hb6⟩
      have Hb6 := hidden (Hb5.out.trans (hb6.mono Hb5.out.size))
      have Hown6 := hidden (hown_keep Hown5.out hb6)
      clear hb6 Hown5
      obtain ⟨W, hW⟩ : ∃ W, w6.alloc (.cells #[.int .i64 0, .int .i64 0] 32) = W := ⟨_, rfl⟩
      have HbW : Hid (Below w3.heap.size w3 W) := by unfold Hid; rw [← hW]; exact Hb6.out.alloc Hb6.out.size _
      have HownW : Hid (W.ownsRow w3.heap.size 5 1 v' 0 (bytesV (listOf f 0))) := by unfold Hid; rw [← hW]; exact Hown6.out.alloc _
      have hW0 : W.cell? ⟨w6.heap.size, 0, none⟩ = some (.int .i64 0) := by rw [← hW]; simp
      have hW1 : W.cell? ⟨w6.heap.size, 1, none⟩ = some (.int .i64 0) := by rw [← hW]; simp
      have hWl : W.cell? ⟨g, 0, none⟩ = some (.string pc) := HLI.out W HbW.out
      have HALL : Hid (∀ u, Rel W u → ((u.cell? ⟨w6.heap.size, 0, none⟩ = some (.int .i64 0) ∧ u.cell? ⟨w6.heap.size, 1, none⟩ = some (.int .i64 0)) ∧ u.cell? ⟨g, 0, none⟩ = some (.string pc) ∧ (convert 22 9 (.slice none 0 0)).run Tryd.prog u = .ok (.string pc) u) ∧ Rel W u) := fun u hu =>
        ⟨⟨⟨kept_cell hu hW0, kept_cell hu hW1⟩, kept_cell hu hWl, HCV.out u (HbW.out.trans (Below.mono hu HbW.out.size))⟩, hu⟩
      have hall := HALL.out W (Rel.refl _)
      have HE : Hid (∀ u g0 cp, Rel W u → pc.size ≤ cp → Cells u g0 0 pc.size (byt pc) → Calls Tryd.prog 13 #[.slice (some ⟨g0, 0, none⟩) pc.size cp] u fun e w' => ∃ x c, e = .returned (.slice x 0 c) ∧ Rel W w') := fun u g0 cp hu hcp hcc =>
        (ends_piece pc g0 cp u (by omega) HFR.out hcp hcc).mono fun e w' ⟨x, c, he, hb⟩ => ⟨x, c, he, hu.next hb⟩
      have hcv2 := convW_run pc
      clear hWl Hown6 Hb6 Hb5
      have HW := hidden hW
      clear hW
      go_wp2_with fail
      rw [HW.out]
      refine wp_region_held_drew (S := (fun u => ((u.cell? ⟨w6.heap.size, 0, none⟩ = some (.int .i64 0) ∧ u.cell? ⟨w6.heap.size, 1, none⟩ = some (.int .i64 0)) ∧ u.cell? ⟨g, 0, none⟩ = some (.string pc) ∧ (convert 22 9 (.slice none 0 0)).run Tryd.prog u = .ok (.string pc) u) ∧ Rel W u)) (by kernel_rfl) (HALL.out _ (Rel.drew (Rel.refl _))) (fun hHeld => ?_)
      refine take_dst 0 (some 46) rfl rfl (by kernel_rfl) (by kernel_rfl) (by kernel_rfl) (fun _ _ _ h => h) (v := ?_) (Or.inl ⟨by rfl, ?_⟩) (by assumption) ?_
      rotate_left
      · (intro w hSw; (try dsimp only at hSw); go_simp; try with_reducible rfl)
      simp only [Act.put, List.setIfInBounds_toArray, List.set_cons_zero, List.set_cons_succ]
      refine take_dst 1 (some 47) rfl rfl (by kernel_rfl) (by kernel_rfl) (by kernel_rfl) (fun _ _ _ h => h) (v := ?_) (Or.inl ⟨by rfl, ?_⟩) (by assumption) ?_
      rotate_left
      · (intro w hSw; (try dsimp only at hSw); go_simp; try with_reducible rfl)
      simp only [Act.put, List.setIfInBounds_toArray, List.set_cons_zero, List.set_cons_succ]
      refine take_dst 2 (some 48) rfl rfl (by kernel_rfl) (by kernel_rfl) (by kernel_rfl) (fun _ _ _ h => h) (v := ?_) (Or.inl ⟨by rfl, ?_⟩) (by assumption) ?_
      rotate_left
      · (intro w hSw; (try dsimp only at hSw); go_simp; try with_reducible rfl)
      simp only [Act.put, List.setIfInBounds_toArray, List.set_cons_zero, List.set_cons_succ]
      refine take_dst 3 (some 49) rfl rfl (by kernel_rfl) (by kernel_rfl) (by kernel_rfl) (fun _ _ _ h => h) (v := ?_) (Or.inl ⟨by rfl, ?_⟩) (by assumption) ?_
      rotate_left
      · (intro w hSw; (try dsimp only at hSw); go_simp; try with_reducible rfl)
      simp only [Act.put, List.setIfInBounds_toArray, List.set_cons_zero, List.set_cons_succ]
      refine take_dst 4 (some 50) rfl rfl (by kernel_rfl) (by kernel_rfl) (by kernel_rfl) (fun _ _ _ h => h) (v := ?_) (Or.inl ⟨by rfl, ?_⟩) (by assumption) ?_
      rotate_left
      · (intro w hSw; (try dsimp only at hSw); go_simp; try with_reducible rfl)
      simp only [Act.put, List.setIfInBounds_toArray, List.set_cons_zero, List.set_cons_succ]
      refine take_dst 5 (some 51) rfl rfl (by kernel_rfl) (by kernel_rfl) (by kernel_rfl) (fun _ _ _ h => h) (v := ?_) (Or.inl ⟨by rfl, ?_⟩) (by assumption) ?_
      rotate_left
      · (intro w hSw; (try dsimp only at hSw); go_simp; try with_reducible rfl)
      simp only [Act.put, List.setIfInBounds_toArray, List.set_cons_zero, List.set_cons_succ]
      refine take_dst 6 (some 52) rfl rfl (by kernel_rfl) (by kernel_rfl) (by kernel_rfl) (fun _ _ _ h => h) (v := ?_) (Or.inl ⟨by rfl, ?_⟩) (by assumption) ?_
      rotate_left
      · (intro w hSw; (try dsimp only at hSw); go_simp; try with_reducible rfl)
      simp only [Act.put, List.setIfInBounds_toArray, List.set_cons_zero, List.set_cons_succ]
      refine take_dst 7 (some 53) rfl rfl (by kernel_rfl) (by kernel_rfl) (by kernel_rfl) (fun _ _ _ h => h) (v := ?_) (Or.inl ⟨by rfl, ?_⟩) (by assumption) ?_
      rotate_left
      · (intro w hSw; (try dsimp only at hSw); go_simp; try with_reducible rfl)
      simp only [Act.put, List.setIfInBounds_toArray, List.set_cons_zero, List.set_cons_succ]
      refine take_dst 8 (some 54) rfl rfl (by kernel_rfl) (by kernel_rfl) (by kernel_rfl) (fun _ _ _ h => h) (v := ?_) (Or.inl ⟨by rfl, ?_⟩) (by assumption) ?_
      rotate_left
      · (intro w hSw; (try dsimp only at hSw); go_simp; try with_reducible rfl)
      simp only [Act.put, List.setIfInBounds_toArray, List.set_cons_zero, List.set_cons_succ]
      refine take_dst 9 (some 55) rfl rfl (by kernel_rfl) (by kernel_rfl) (by kernel_rfl) (fun _ _ _ h => h) (v := ?_) (Or.inl ⟨by rfl, ?_⟩) (by assumption) ?_
      rotate_left
      · (intro w hSw; (try dsimp only at hSw); go_simp; try with_reducible rfl)
      simp only [Act.put, List.setIfInBounds_toArray, List.set_cons_zero, List.set_cons_succ]
      refine take_dst 10 (some 56) rfl rfl (by kernel_rfl) (by kernel_rfl) (by kernel_rfl) (fun _ _ _ h => h) (v := ?_) (Or.inl ⟨by rfl, ?_⟩) (by assumption) ?_
      rotate_left
      · (intro w hSw; (try dsimp only at hSw); go_simp; try with_reducible rfl)
      simp only [Act.put, List.setIfInBounds_toArray, List.set_cons_zero, List.set_cons_succ]
      refine take_dst 11 (some 57) rfl rfl (by kernel_rfl) (by kernel_rfl) (by kernel_rfl) (fun _ _ _ h => h) (v := ?_) (Or.inl ⟨by rfl, ?_⟩) (by assumption) ?_
      rotate_left
      · (intro w hSw; (try dsimp only at hSw); go_simp; try with_reducible rfl)
      simp only [Act.put, List.setIfInBounds_toArray, List.set_cons_zero, List.set_cons_succ]
      refine take_dst 12 (some 58) rfl rfl (by kernel_rfl) (by kernel_rfl) (by kernel_rfl) (fun _ _ _ h => h) (v := ?_) (Or.inl ⟨by rfl, ?_⟩) (by assumption) ?_
      rotate_left
      · (intro w hSw; (try dsimp only at hSw); go_simp; try with_reducible rfl)
      simp only [Act.put, List.setIfInBounds_toArray, List.set_cons_zero, List.set_cons_succ]
      refine take_dst 13 (some 59) rfl rfl (by kernel_rfl) (by kernel_rfl) (by kernel_rfl) (fun _ _ _ h => h) (v := ?_) (Or.inl ⟨by rfl, ?_⟩) (by assumption) ?_
      rotate_left
      · (intro w hSw; (try dsimp only at hSw); go_simp; try with_reducible rfl)
      simp only [Act.put, List.setIfInBounds_toArray, List.set_cons_zero, List.set_cons_succ]
      refine take_dst 14 (some 60) rfl rfl (by kernel_rfl) (by kernel_rfl) (by kernel_rfl) (fun _ _ _ h => h) (v := ?_) (Or.inl ⟨by rfl, ?_⟩) (by assumption) ?_
      rotate_left
      · (intro w hSw; (try dsimp only at hSw); go_simp; try with_reducible rfl)
      simp only [Act.put, List.setIfInBounds_toArray, List.set_cons_zero, List.set_cons_succ]
      refine take_dst 15 (some 61) rfl rfl (by kernel_rfl) (by kernel_rfl) (by kernel_rfl) (fun _ _ _ h => h) (v := ?_) (Or.inl ⟨by rfl, ?_⟩) (by assumption) ?_
      rotate_left
      · (intro w hSw; (try dsimp only at hSw); go_simp; try with_reducible rfl)
      simp only [Act.put, List.setIfInBounds_toArray, List.set_cons_zero, List.set_cons_succ]
      refine take_dst 16 (some 62) rfl rfl (by kernel_rfl) (by kernel_rfl) (by kernel_rfl) (fun _ _ _ h => h) (v := ?_) (Or.inl ⟨by rfl, ?_⟩) (by assumption) ?_
      rotate_left
      · (intro w hSw; (try dsimp only at hSw); go_simp; try with_reducible rfl)
      simp only [Act.put, List.setIfInBounds_toArray, List.set_cons_zero, List.set_cons_succ]
      refine take_dst 17 (some 63) rfl rfl (by kernel_rfl) (by kernel_rfl) (by kernel_rfl) (fun _ _ _ h => h) (v := ?_) (Or.inl ⟨by rfl, ?_⟩) (by assumption) ?_
      rotate_left
      · (intro w hSw; (try dsimp only at hSw); go_simp; try with_reducible rfl)
      simp only [Act.put, List.setIfInBounds_toArray, List.set_cons_zero, List.set_cons_succ]
      refine take_dst 18 (some 64) rfl rfl (by kernel_rfl) (by kernel_rfl) (by kernel_rfl) (fun _ _ _ h => h) (v := ?_) (Or.inl ⟨by rfl, ?_⟩) (by assumption) ?_
      rotate_left
      · (intro w hSw; (try dsimp only at hSw); go_simp; try with_reducible rfl)
      simp only [Act.put, List.setIfInBounds_toArray, List.set_cons_zero, List.set_cons_succ]
      refine take_dst 19 (some 65) rfl rfl (by kernel_rfl) (by kernel_rfl) (by kernel_rfl) (fun _ _ _ h => h) (v := ?_) (Or.inl ⟨by rfl, ?_⟩) (by assumption) ?_
      rotate_left
      · (intro w hSw; (try dsimp only at hSw); go_simp; try with_reducible rfl)
      simp only [Act.put, List.setIfInBounds_toArray, List.set_cons_zero, List.set_cons_succ]
      refine take_dst 20 (some 66) rfl rfl (by kernel_rfl) (by kernel_rfl) (by kernel_rfl) (fun _ _ _ h => h) (v := ?_) (Or.inl ⟨by rfl, ?_⟩) (by assumption) ?_
      rotate_left
      · (intro w hSw; (try dsimp only at hSw); go_simp; try with_reducible rfl)
      simp only [Act.put, List.setIfInBounds_toArray, List.set_cons_zero, List.set_cons_succ]
      refine take_dst 21 (some 67) rfl rfl (by kernel_rfl) (by kernel_rfl) (by kernel_rfl) (fun _ _ _ h => h) (v := ?_) (Or.inl ⟨by rfl, ?_⟩) (by assumption) ?_
      rotate_left
      · (intro w hSw; (try dsimp only at hSw); go_simp; try with_reducible rfl)
      simp only [Act.put, List.setIfInBounds_toArray, List.set_cons_zero, List.set_cons_succ]
      refine take_dst 22 (some 68) rfl rfl (by kernel_rfl) (by kernel_rfl) (by kernel_rfl) (fun _ _ _ h => h) (v := ?_) (Or.inl ⟨by rfl, ?_⟩) (by assumption) ?_
      rotate_left
      · (intro w hSw; (try dsimp only at hSw); go_simp; try with_reducible rfl)
      simp only [Act.put, List.setIfInBounds_toArray, List.set_cons_zero, List.set_cons_succ]
      refine take_dst 23 (some 69) rfl rfl (by kernel_rfl) (by kernel_rfl) (by kernel_rfl) (fun _ _ _ h => h) (v := ?_) (Or.inl ⟨by rfl, ?_⟩) (by assumption) ?_
      rotate_left
      · (intro w hSw; (try dsimp only at hSw); go_simp; try with_reducible rfl)
      simp only [Act.put, List.setIfInBounds_toArray, List.set_cons_zero, List.set_cons_succ]
      refine wpAnyH_ready (rs := [24]) (by kernel_rfl) (by simp) ?_
      refine AllReadyH.cons rfl (fun K hK => ?_) AllReadyH.nil
      go_simp
      refine hK.out _ _ (HALL.out _ (Rel.conv (hHeld.2) pc)) (fun hHeld2 => ?_)
      clear hK K
      refine wpAnyH_ready (rs := [25]) (by kernel_rfl) (by simp) ?_
      refine AllReadyH.cons rfl (fun K hK => ?_) AllReadyH.nil
      go_simp
      refine (HE.out _ _ _ (Rel.conv (Rel.drew (Rel.refl W)) pc) (convCap_ge W.drew pc) (convW_cells pc W.drew)).mono ?_
      rintro e w7 ⟨x7, c7, rfl, r7⟩
      refine hK.out _ _ (HALL.out _ r7) (fun hHeld3 => ?_)
      clear hK K hHeld hHeld2
      refine take_dst 26 (some 72) rfl rfl (by kernel_rfl) (by kernel_rfl) (by kernel_rfl) (fun _ _ _ h => h) (v := ?_) (Or.inl ⟨by rfl, ?_⟩) (by assumption) ?_
      rotate_left
      · (intro w hSw; (try dsimp only at hSw); go_simp; try with_reducible rfl)
      simp only [Act.put, List.setIfInBounds_toArray, List.set_cons_zero, List.set_cons_succ]
      refine take_dst 27 (some 73) rfl rfl (by kernel_rfl) (by kernel_rfl) (by kernel_rfl) (fun _ _ _ h => h) (v := ?_) (Or.inl ⟨by rfl, ?_⟩) (by assumption) ?_
      rotate_left
      · (intro w hSw; (try dsimp only at hSw); go_simp; try with_reducible rfl)
      simp only [Act.put, List.setIfInBounds_toArray, List.set_cons_zero, List.set_cons_succ]
      refine take_dst 28 (some 74) rfl rfl (by kernel_rfl) (by kernel_rfl) (by kernel_rfl) (fun _ _ _ h => h) (v := ?_) (Or.inl ⟨by rfl, ?_⟩) (by assumption) ?_
      rotate_left
      · (intro w hSw; (try dsimp only at hSw); go_simp; try with_reducible rfl)
      simp only [Act.put, List.setIfInBounds_toArray, List.set_cons_zero, List.set_cons_succ]
      refine wpAnyH_done (by kernel_rfl) ?_ _
      have HFIN : Hid (w7.ownsRow w3.heap.size 5 1 v' 0 (bytesV (listOf f 0)) ∧ Below w3.heap.size w3 w7) := by
        unfold Hid
        exact ⟨hown_keep HownW.out r7, HbW.out.trans (Below.mono r7 HbW.out.size)⟩
      clear hHeld3 HALL HE hall hcv2 r7 HownW HbW hW0 hW1
      go_wp2
      go_roundw
      case rel => exact ⟨0 + 1, by omega, by go_num, HFIN.out.1, HFIN.out.2⟩
      case measure => simp [intOf]
    · obtain rfl : k = 1 := by omega
      have hs : IsRow wr u4 0 f := by
        have h := isRow_own (l := []) (fun c hc => by simp at hc) (by simp) hown
        exact isRow_congr h HF.out (fun j hj => by simp at hj)
      have cS := same_any u4 (.slice none 0 0) 0 f wr (by omega) hs (HV.out.below (Hb3.out.trans (hnx.mono Hb3.out.size)))
      have Hb := hidden (Hb3.out.trans (hnx.mono Hb3.out.size))
      clear hs hown hnx
      go_wp2_with fail
      refine cS.mono ?_
      rintro e w9 ⟨rfl, hb9⟩
      have Hb9 := hidden (Hb.out.trans (hb9.mono Hb.out.size))
      clear hb9 cS
      go_wp2
      go_ret
      exact ⟨rfl, Hb9.out⟩

set_option maxHeartbeats 4000000 in
set_option maxRecDepth 100000 in
theorem empty1 (x : Addr) (f : Nat → Nat) (w : World) (hf : ∀ j, f j < 256) (hT : Lib.Utf8Tabs 1 2 w) :
    Calls Tryd.prog 6 #[.slice (some x) 0 0] w fun e w' => e = .returned (.bool true) ∧ Below w.heap.size w w' := by
  have cs := rows_any w hT
  obtain ⟨i0, hi, hz0, hz1, hz2⟩ := info_parts info5
  have hv : IsRow w (.slice (some x) 0 0) 0 f := ⟨hf, by omega, Or.inl ⟨_, rfl, rfl⟩⟩
  have HV := hidden hv
  have HF := hidden hf
  have hn : (0 : Nat) ≤ 300 := by omega
  clear hT hv hf
  go_enter Tryd.func6, Tryd.ntmps6
  go_wp2_with fail
  refine cs.mono ?_
  rintro e w1 ⟨rfl, hb1⟩
  have c1 := split_any _ 0 f w1 (by omega) (HV.out.below hb1)
  have Hb1 := hidden hb1
  clear cs hb1
  go_wp2_with fail
  refine c1.mono ?_
  rintro e w2 ⟨l, rfl, hl, hb2⟩
  obtain ⟨g, gcap, rfl, hgc, hl⟩ : ∃ g gcap, l = .slice (some ⟨g, 0, none⟩) 1 gcap ∧ 1 ≤ gcap ∧ w2.cell? ⟨g, 0, none⟩ = some (.string (pieceB f 0 0)) := by
    obtain ⟨g, gcap, _, rfl, hgc, hl⟩ := hl
    exact ⟨g, gcap, rfl, hgc, hl 0 (Nat.zero_lt_succ _)⟩
  have Hb2 := hidden (Hb1.out.trans (hb2.mono Hb1.out.size))
  have c2 := count_none (some x) w2
  have HL := hidden hl
  clear hb2 c1 hl
  go_wp2_with fail
  refine c2.mono ?_
  rintro e w3 ⟨rfl, hb3⟩
  have Hb3 := hidden (Hb2.out.trans (hb3.mono Hb2.out.size))
  have HPC := hidden (piece_cells (n := 0) (k := 0) HF.out (Nat.zero_le _))
  have HFR := hidden (piece_free (n := 0) (k := 0) HF.out (Nat.zero_le _))
  have HPS := hidden (pieceB_size f 0 0)
  have HLI : Hid (∀ W, Below w3.heap.size w3 W → W.cell? ⟨g, 0, none⟩ = some (.string (pieceB f 0 0))) := fun W hW => kept_cell hW (kept_cell hb3 HL.out)
  have HCV : Hid (∀ u, Below w3.heap.size w3 u → (convert 22 9 (.slice (some x) 0 0)).run Tryd.prog u = .ok (.string (pieceB f 0 0)) u) := fun u _ => conv_none (some x) _ u
  have HSP : Hid (∀ u, Below w3.heap.size w3 u → Calls Tryd.prog 17 #[.slice (some x) 0 0, .int .i64 0] u fun e w' => e = .returned (.tuple #[.agg #[.int .i64 0, .int .i64 0], .bool true]) ∧ Below u.heap.size u w') := fun u _ => span_none (some x) u
  obtain ⟨pc, hpc⟩ : ∃ pc, pieceB f 0 0 = pc := ⟨_, rfl⟩
  rw [hpc] at HPC HFR HPS HLI HCV
  have hps' : pc.size ≤ 300 := by have h : pc.size = 0 := HPS.out; omega
  have HPS' : Hid (pc.size = 0) := HPS.out
  have hwr0 : IntKind.i64.wrap (0 : Int) = 0 := IntWalk.i64_in _ (by omega)
  have HPC' : Hid (bytesV (listOf f 0) ++ Lib.strCells pc = bytesV (listOf f 0)) := HPC.out
  clear hb3 c2 HL hpc HPC HPS
  go_wp2_with fail
  go_loopw [4, 5] (fun v i wr => ∃ k : Nat, k ≤ 1 ∧ i = .int .i64 (k : Nat) ∧ wr.ownsRow w3.heap.size 5 1 v 0 (bytesV (listOf f 0)) ∧ Below w3.heap.size w3 wr) (fun _ i _ => 1 - (intOf i).toNat)
  case atStart => exact ⟨0, Nat.zero_le _, rfl, World.ownsRow_nil _ _ _ _, Below.refl _ _⟩
  case round =>
    obtain ⟨k, hk, rfl, hown, hnx⟩ := hrel
    by_cases hk0 : k = 0
    · subst hk0
      have OWN := hidden hown
      have HBW := hidden hnx
      have g1 := HLI.out wr hnx
      clear hown hnx
      go_wp2_with (at_builtin; refine Lib.wpList_append_own_string _ rfl _ _ 22 9 rfl w3.heap.size 5 i0 Tryd.underlying22 Tryd.underlying9 hi hz0 hz1 hz2 _ _ _ rfl OWN.out pc rfl ?e1 ?e2 ?e3 ?_)
      case e1 => unfold maxLen; omega
      case e2 => omega
      case e3 => exact HBW.out.size
      intro v' w5 hown' hgrow _
      have hb5 := below_append' HBW.out.size OWN.out HBW.out hgrow
      have Hown5 : Hid (w5.ownsRow w3.heap.size 5 1 v' 0 (bytesV (listOf f 0))) := by
        have hq := HPS'.out
        unfold Hid
        rw [← HPC'.out]
        simpa [HPS'.out] using hown'
      have Hb5 := hidden hb5
      clear hown' hgrow hb5 OWN HBW
      go_wp2_with fail
      refine (HSP.out _ Hb5.out).mono ?_
      rintro e w6 ⟨rfl, hb6⟩
      have Hb6 := hidden (Hb5.out.trans (hb6.mono Hb5.out.size))
      have Hown6 := hidden (hown_keep Hown5.out hb6)
      clear hb6 Hown5
      obtain ⟨W, hW⟩ : ∃ W, w6.alloc (.cells #[.int .i64 0, .int .i64 0] 32) = W := ⟨_, rfl⟩
      have HbW : Hid (Below w3.heap.size w3 W) := by unfold Hid; rw [← hW]; exact Hb6.out.alloc Hb6.out.size _
      have HownW : Hid (W.ownsRow w3.heap.size 5 1 v' 0 (bytesV (listOf f 0))) := by unfold Hid; rw [← hW]; exact Hown6.out.alloc _
      have hW0 : W.cell? ⟨w6.heap.size, 0, none⟩ = some (.int .i64 0) := by rw [← hW]; simp
      have hW1 : W.cell? ⟨w6.heap.size, 1, none⟩ = some (.int .i64 0) := by rw [← hW]; simp
      have hWl : W.cell? ⟨g, 0, none⟩ = some (.string pc) := HLI.out W HbW.out
      have HALL : Hid (∀ u, Rel W u → ((u.cell? ⟨w6.heap.size, 0, none⟩ = some (.int .i64 0) ∧ u.cell? ⟨w6.heap.size, 1, none⟩ = some (.int .i64 0)) ∧ u.cell? ⟨g, 0, none⟩ = some (.string pc) ∧ (convert 22 9 (.slice (some x) 0 0)).run Tryd.prog u = .ok (.string pc) u) ∧ Rel W u) := fun u hu =>
        ⟨⟨⟨kept_cell hu hW0, kept_cell hu hW1⟩, kept_cell hu hWl, HCV.out u (HbW.out.trans (Below.mono hu HbW.out.size))⟩, hu⟩
      have hall := HALL.out W (Rel.refl _)
      have HE : Hid (∀ u g0 cp, Rel W u → pc.size ≤ cp → Cells u g0 0 pc.size (byt pc) → Calls Tryd.prog 13 #[.slice (some ⟨g0, 0, none⟩) pc.size cp] u fun e w' => ∃ x c, e = .returned (.slice x 0 c) ∧ Rel W w') := fun u g0 cp hu hcp hcc =>
        (ends_piece pc g0 cp u (by omega) HFR.out hcp hcc).mono fun e w' ⟨x, c, he, hb⟩ => ⟨x, c, he, hu.next hb⟩
      have hcv2 := convW_run pc
      clear hWl Hown6 Hb6 Hb5
      have HW := hidden hW
      clear hW
      go_wp2_with fail
      rw [HW.out]
      refine wp_region_held_drew (S := (fun u => ((u.cell? ⟨w6.heap.size, 0, none⟩ = some (.int .i64 0) ∧ u.cell? ⟨w6.heap.size, 1, none⟩ = some (.int .i64 0)) ∧ u.cell? ⟨g, 0, none⟩ = some (.string pc) ∧ (convert 22 9 (.slice (some x) 0 0)).run Tryd.prog u = .ok (.string pc) u) ∧ Rel W u)) (by kernel_rfl) (HALL.out _ (Rel.drew (Rel.refl _))) (fun hHeld => ?_)
      refine take_dst 0 (some 46) rfl rfl (by kernel_rfl) (by kernel_rfl) (by kernel_rfl) (fun _ _ _ h => h) (v := ?_) (Or.inl ⟨by rfl, ?_⟩) (by assumption) ?_
      rotate_left
      · (intro w hSw; (try dsimp only at hSw); go_simp; try with_reducible rfl)
      simp only [Act.put, List.setIfInBounds_toArray, List.set_cons_zero, List.set_cons_succ]
      refine take_dst 1 (some 47) rfl rfl (by kernel_rfl) (by kernel_rfl) (by kernel_rfl) (fun _ _ _ h => h) (v := ?_) (Or.inl ⟨by rfl, ?_⟩) (by assumption) ?_
      rotate_left
      · (intro w hSw; (try dsimp only at hSw); go_simp; try with_reducible rfl)
      simp only [Act.put, List.setIfInBounds_toArray, List.set_cons_zero, List.set_cons_succ]
      refine take_dst 2 (some 48) rfl rfl (by kernel_rfl) (by kernel_rfl) (by kernel_rfl) (fun _ _ _ h => h) (v := ?_) (Or.inl ⟨by rfl, ?_⟩) (by assumption) ?_
      rotate_left
      · (intro w hSw; (try dsimp only at hSw); go_simp; try with_reducible rfl)
      simp only [Act.put, List.setIfInBounds_toArray, List.set_cons_zero, List.set_cons_succ]
      refine take_dst 3 (some 49) rfl rfl (by kernel_rfl) (by kernel_rfl) (by kernel_rfl) (fun _ _ _ h => h) (v := ?_) (Or.inl ⟨by rfl, ?_⟩) (by assumption) ?_
      rotate_left
      · (intro w hSw; (try dsimp only at hSw); go_simp; try with_reducible rfl)
      simp only [Act.put, List.setIfInBounds_toArray, List.set_cons_zero, List.set_cons_succ]
      refine take_dst 4 (some 50) rfl rfl (by kernel_rfl) (by kernel_rfl) (by kernel_rfl) (fun _ _ _ h => h) (v := ?_) (Or.inl ⟨by rfl, ?_⟩) (by assumption) ?_
      rotate_left
      · (intro w hSw; (try dsimp only at hSw); go_simp; try with_reducible rfl)
      simp only [Act.put, List.setIfInBounds_toArray, List.set_cons_zero, List.set_cons_succ]
      refine take_dst 5 (some 51) rfl rfl (by kernel_rfl) (by kernel_rfl) (by kernel_rfl) (fun _ _ _ h => h) (v := ?_) (Or.inl ⟨by rfl, ?_⟩) (by assumption) ?_
      rotate_left
      · (intro w hSw; (try dsimp only at hSw); go_simp; try with_reducible rfl)
      simp only [Act.put, List.setIfInBounds_toArray, List.set_cons_zero, List.set_cons_succ]
      refine take_dst 6 (some 52) rfl rfl (by kernel_rfl) (by kernel_rfl) (by kernel_rfl) (fun _ _ _ h => h) (v := ?_) (Or.inl ⟨by rfl, ?_⟩) (by assumption) ?_
      rotate_left
      · (intro w hSw; (try dsimp only at hSw); go_simp; try with_reducible rfl)
      simp only [Act.put, List.setIfInBounds_toArray, List.set_cons_zero, List.set_cons_succ]
      refine take_dst 7 (some 53) rfl rfl (by kernel_rfl) (by kernel_rfl) (by kernel_rfl) (fun _ _ _ h => h) (v := ?_) (Or.inl ⟨by rfl, ?_⟩) (by assumption) ?_
      rotate_left
      · (intro w hSw; (try dsimp only at hSw); go_simp; try with_reducible rfl)
      simp only [Act.put, List.setIfInBounds_toArray, List.set_cons_zero, List.set_cons_succ]
      refine take_dst 8 (some 54) rfl rfl (by kernel_rfl) (by kernel_rfl) (by kernel_rfl) (fun _ _ _ h => h) (v := ?_) (Or.inl ⟨by rfl, ?_⟩) (by assumption) ?_
      rotate_left
      · (intro w hSw; (try dsimp only at hSw); go_simp; try with_reducible rfl)
      simp only [Act.put, List.setIfInBounds_toArray, List.set_cons_zero, List.set_cons_succ]
      refine take_dst 9 (some 55) rfl rfl (by kernel_rfl) (by kernel_rfl) (by kernel_rfl) (fun _ _ _ h => h) (v := ?_) (Or.inl ⟨by rfl, ?_⟩) (by assumption) ?_
      rotate_left
      · (intro w hSw; (try dsimp only at hSw); go_simp; try with_reducible rfl)
      simp only [Act.put, List.setIfInBounds_toArray, List.set_cons_zero, List.set_cons_succ]
      refine take_dst 10 (some 56) rfl rfl (by kernel_rfl) (by kernel_rfl) (by kernel_rfl) (fun _ _ _ h => h) (v := ?_) (Or.inl ⟨by rfl, ?_⟩) (by assumption) ?_
      rotate_left
      · (intro w hSw; (try dsimp only at hSw); go_simp; try with_reducible rfl)
      simp only [Act.put, List.setIfInBounds_toArray, List.set_cons_zero, List.set_cons_succ]
      refine take_dst 11 (some 57) rfl rfl (by kernel_rfl) (by kernel_rfl) (by kernel_rfl) (fun _ _ _ h => h) (v := ?_) (Or.inl ⟨by rfl, ?_⟩) (by assumption) ?_
      rotate_left
      · (intro w hSw; (try dsimp only at hSw); go_simp; try with_reducible rfl)
      simp only [Act.put, List.setIfInBounds_toArray, List.set_cons_zero, List.set_cons_succ]
      refine take_dst 12 (some 58) rfl rfl (by kernel_rfl) (by kernel_rfl) (by kernel_rfl) (fun _ _ _ h => h) (v := ?_) (Or.inl ⟨by rfl, ?_⟩) (by assumption) ?_
      rotate_left
      · (intro w hSw; (try dsimp only at hSw); go_simp; try with_reducible rfl)
      simp only [Act.put, List.setIfInBounds_toArray, List.set_cons_zero, List.set_cons_succ]
      refine take_dst 13 (some 59) rfl rfl (by kernel_rfl) (by kernel_rfl) (by kernel_rfl) (fun _ _ _ h => h) (v := ?_) (Or.inl ⟨by rfl, ?_⟩) (by assumption) ?_
      rotate_left
      · (intro w hSw; (try dsimp only at hSw); go_simp; try with_reducible rfl)
      simp only [Act.put, List.setIfInBounds_toArray, List.set_cons_zero, List.set_cons_succ]
      refine take_dst 14 (some 60) rfl rfl (by kernel_rfl) (by kernel_rfl) (by kernel_rfl) (fun _ _ _ h => h) (v := ?_) (Or.inl ⟨by rfl, ?_⟩) (by assumption) ?_
      rotate_left
      · (intro w hSw; (try dsimp only at hSw); go_simp; try with_reducible rfl)
      simp only [Act.put, List.setIfInBounds_toArray, List.set_cons_zero, List.set_cons_succ]
      refine take_dst 15 (some 61) rfl rfl (by kernel_rfl) (by kernel_rfl) (by kernel_rfl) (fun _ _ _ h => h) (v := ?_) (Or.inl ⟨by rfl, ?_⟩) (by assumption) ?_
      rotate_left
      · (intro w hSw; (try dsimp only at hSw); go_simp; try with_reducible rfl)
      simp only [Act.put, List.setIfInBounds_toArray, List.set_cons_zero, List.set_cons_succ]
      refine take_dst 16 (some 62) rfl rfl (by kernel_rfl) (by kernel_rfl) (by kernel_rfl) (fun _ _ _ h => h) (v := ?_) (Or.inl ⟨by rfl, ?_⟩) (by assumption) ?_
      rotate_left
      · (intro w hSw; (try dsimp only at hSw); go_simp; try with_reducible rfl)
      simp only [Act.put, List.setIfInBounds_toArray, List.set_cons_zero, List.set_cons_succ]
      refine take_dst 17 (some 63) rfl rfl (by kernel_rfl) (by kernel_rfl) (by kernel_rfl) (fun _ _ _ h => h) (v := ?_) (Or.inl ⟨by rfl, ?_⟩) (by assumption) ?_
      rotate_left
      · (intro w hSw; (try dsimp only at hSw); go_simp; try with_reducible rfl)
      simp only [Act.put, List.setIfInBounds_toArray, List.set_cons_zero, List.set_cons_succ]
      refine take_dst 18 (some 64) rfl rfl (by kernel_rfl) (by kernel_rfl) (by kernel_rfl) (fun _ _ _ h => h) (v := ?_) (Or.inl ⟨by rfl, ?_⟩) (by assumption) ?_
      rotate_left
      · (intro w hSw; (try dsimp only at hSw); go_simp; try with_reducible rfl)
      simp only [Act.put, List.setIfInBounds_toArray, List.set_cons_zero, List.set_cons_succ]
      refine take_dst 19 (some 65) rfl rfl (by kernel_rfl) (by kernel_rfl) (by kernel_rfl) (fun _ _ _ h => h) (v := ?_) (Or.inl ⟨by rfl, ?_⟩) (by assumption) ?_
      rotate_left
      · (intro w hSw; (try dsimp only at hSw); go_simp; try with_reducible rfl)
      simp only [Act.put, List.setIfInBounds_toArray, List.set_cons_zero, List.set_cons_succ]
      refine take_dst 20 (some 66) rfl rfl (by kernel_rfl) (by kernel_rfl) (by kernel_rfl) (fun _ _ _ h => h) (v := ?_) (Or.inl ⟨by rfl, ?_⟩) (by assumption) ?_
      rotate_left
      · (intro w hSw; (try dsimp only at hSw); go_simp; try with_reducible rfl)
      simp only [Act.put, List.setIfInBounds_toArray, List.set_cons_zero, List.set_cons_succ]
      refine take_dst 21 (some 67) rfl rfl (by kernel_rfl) (by kernel_rfl) (by kernel_rfl) (fun _ _ _ h => h) (v := ?_) (Or.inl ⟨by rfl, ?_⟩) (by assumption) ?_
      rotate_left
      · (intro w hSw; (try dsimp only at hSw); go_simp; try with_reducible rfl)
      simp only [Act.put, List.setIfInBounds_toArray, List.set_cons_zero, List.set_cons_succ]
      refine take_dst 22 (some 68) rfl rfl (by kernel_rfl) (by kernel_rfl) (by kernel_rfl) (fun _ _ _ h => h) (v := ?_) (Or.inl ⟨by rfl, ?_⟩) (by assumption) ?_
      rotate_left
      · (intro w hSw; (try dsimp only at hSw); go_simp; try with_reducible rfl)
      simp only [Act.put, List.setIfInBounds_toArray, List.set_cons_zero, List.set_cons_succ]
      refine take_dst 23 (some 69) rfl rfl (by kernel_rfl) (by kernel_rfl) (by kernel_rfl) (fun _ _ _ h => h) (v := ?_) (Or.inl ⟨by rfl, ?_⟩) (by assumption) ?_
      rotate_left
      · (intro w hSw; (try dsimp only at hSw); go_simp; try with_reducible rfl)
      simp only [Act.put, List.setIfInBounds_toArray, List.set_cons_zero, List.set_cons_succ]
      refine wpAnyH_ready (rs := [24]) (by kernel_rfl) (by simp) ?_
      refine AllReadyH.cons rfl (fun K hK => ?_) AllReadyH.nil
      go_simp
      refine hK.out _ _ (HALL.out _ (Rel.conv (hHeld.2) pc)) (fun hHeld2 => ?_)
      clear hK K
      refine wpAnyH_ready (rs := [25]) (by kernel_rfl) (by simp) ?_
      refine AllReadyH.cons rfl (fun K hK => ?_) AllReadyH.nil
      go_simp
      refine (HE.out _ _ _ (Rel.conv (Rel.drew (Rel.refl W)) pc) (convCap_ge W.drew pc) (convW_cells pc W.drew)).mono ?_
      rintro e w7 ⟨x7, c7, rfl, r7⟩
      refine hK.out _ _ (HALL.out _ r7) (fun hHeld3 => ?_)
      clear hK K hHeld hHeld2
      refine take_dst 26 (some 72) rfl rfl (by kernel_rfl) (by kernel_rfl) (by kernel_rfl) (fun _ _ _ h => h) (v := ?_) (Or.inl ⟨by rfl, ?_⟩) (by assumption) ?_
      rotate_left
      · (intro w hSw; (try dsimp only at hSw); go_simp; try with_reducible rfl)
      simp only [Act.put, List.setIfInBounds_toArray, List.set_cons_zero, List.set_cons_succ]
      refine take_dst 27 (some 73) rfl rfl (by kernel_rfl) (by kernel_rfl) (by kernel_rfl) (fun _ _ _ h => h) (v := ?_) (Or.inl ⟨by rfl, ?_⟩) (by assumption) ?_
      rotate_left
      · (intro w hSw; (try dsimp only at hSw); go_simp; try with_reducible rfl)
      simp only [Act.put, List.setIfInBounds_toArray, List.set_cons_zero, List.set_cons_succ]
      refine take_dst 28 (some 74) rfl rfl (by kernel_rfl) (by kernel_rfl) (by kernel_rfl) (fun _ _ _ h => h) (v := ?_) (Or.inl ⟨by rfl, ?_⟩) (by assumption) ?_
      rotate_left
      · (intro w hSw; (try dsimp only at hSw); go_simp; try with_reducible rfl)
      simp only [Act.put, List.setIfInBounds_toArray, List.set_cons_zero, List.set_cons_succ]
      refine wpAnyH_done (by kernel_rfl) ?_ _
      have HFIN : Hid (w7.ownsRow w3.heap.size 5 1 v' 0 (bytesV (listOf f 0)) ∧ Below w3.heap.size w3 w7) := by
        unfold Hid
        exact ⟨hown_keep HownW.out r7, HbW.out.trans (Below.mono r7 HbW.out.size)⟩
      clear hHeld3 HALL HE hall hcv2 r7 HownW HbW hW0 hW1
      go_wp2
      go_roundw
      case rel => exact ⟨0 + 1, by omega, by go_num, HFIN.out.1, HFIN.out.2⟩
      case measure => simp [intOf]
    · obtain rfl : k = 1 := by omega
      have hs : IsRow wr u4 0 f := by
        have h := isRow_own (l := []) (fun c hc => by simp at hc) (by simp) hown
        exact isRow_congr h HF.out (fun j hj => by simp at hj)
      have cS := same_any u4 (.slice (some x) 0 0) 0 f wr (by omega) hs (HV.out.below (Hb3.out.trans (hnx.mono Hb3.out.size)))
      have Hb := hidden (Hb3.out.trans (hnx.mono Hb3.out.size))
      clear hs hown hnx
      go_wp2_with fail
      refine cS.mono ?_
      rintro e w9 ⟨rfl, hb9⟩
      have Hb9 := hidden (Hb.out.trans (hb9.mono Hb.out.size))
      clear hb9 cS
      go_wp2
      go_ret
      exact ⟨rfl, Hb9.out⟩

theorem law (v : Value) (n : Nat) (f : Nat → Nat) (w : World) (hv : IsRow w v n f) (hT : Lib.Utf8Tabs 1 2 w) :
    Calls Tryd.prog 6 #[v] w fun e w' => e = .returned (.bool true) ∧ Below w.heap.size w w' := by
  by_cases hn : 300 < n
  · exact long v n f w hv hn hT
  · obtain ⟨hf, _, h⟩ := hv
    rcases h with ⟨a, rfl, rfl⟩ | ⟨b, off, cap, rfl, hcap, hc⟩
    · cases a with
      | none => exact empty0 f w hf hT
      | some x => exact empty1 x f w hf hT
    · exact row f b off n cap w hf hcap hc (by omega) hT

set_option maxRecDepth 100000 in
theorem lifted (os : Os) (started : os.Started) (H : Type) (enc : TypeId × Value → H) :
    ReturnsInHanded {} Tryd.checked os 6 .any (fun w args => (Rows.linesSplitsSpec.pre enc Tryd.prog Tryd.f6 [] false w args ∧ laidMetH Tryd.prog laid w) ∧ sizedMet enc Tryd.prog Tryd.f6 (OpenSpec.ofChange Rows.linesSplitsSpec) false w args)
      (Rows.linesSplitsSpec.post enc Tryd.prog Tryd.f6 false true false false) := by
  refine returnsInHanded_of_change_and (C := Tryd.checked) (X := fun w _ => laidMetH Tryd.prog laid w) (fun _ _ _ hh h => h.of_heap hh) own started (by kernel_rfl) Tryd.func6
    (ChangeSpec.witness_shaped (enc := enc) (C := Tryd.checked) (os := os) (X := fun w _ => laidMetH Tryd.prog laid w) false (World.laidAll Tryd.prog os laid) #[.slice none 0 0] 8 (World.laidAll_os _ _ _)
      (World.shaped_of_ZipB (by kernel_rfl) (by kernel_rfl)) (by kernel_rfl) (by kernel_rfl) (by kernel_rfl) (laid_world os _)) ?_
  intro W base args ds gs before hval0 hW _ _ hL _
  have hval : ∀ (j : Nat) t v, Tryd.f6.params[j]? = some t → args[j]? = some v → Value.okWide Tryd.prog W .any base t v := hval0
  have hW' := hW
  obtain ⟨p, q, hA0, hV, rfl, _, _⟩ := hW
  have hA : DataW.TrodAll enc Tryd.prog W 0 (fun _ => true) true Tryd.f6.params.toList args.toList ds p := hA0
  rw [Tryd.params6] at hA hval
  obtain ⟨v0, vs0, d0, ds0, p0, q0, hargs, rfl, rfl, h0, r0⟩ := trodAll_cons hA
  obtain ⟨rfl, rfl, rfl⟩ := trodAll_nil r0
  obtain rfl : args = #[v0] := by cases args; simp_all
  obtain ⟨rfl, rfl⟩ := trodVars_none hV
  have lt0 : ∀ x ∈ p0, x.block < W.heap.size := by obtain ⟨m, hm⟩ := h0; exact DataW.trod_lt m _ _ _ hm
  obtain ⟨n0, f0, g0⟩ := open_bytes (hval 0 22 v0 rfl rfl) h0
  clear hA0 hval0
  simp only [List.append_nil] at hW'
  refine (law v0 n0 f0 W g0 (tabs_of_laid hL)).mono fun e W' ⟨he, bel⟩ => ?_
  subst he
  exact ⟨_, rfl, _, _, _, [], _, [], hW', trodAll_mk1 (shut_bool Tryd.underlying4 _), (trodAll_cons_mk (Below.trod laidOut (by kernel_rfl) (of_decide_eq_true (by kernel_rfl)) h0 bel lt0) trodAll_mk0), rfl, bel.frame _, fun h => by cases h⟩

theorem said : Rows.LinesSplitsSaid :=
  OpenClaim.holds_of_wide 6 Tryd.f6 rfl rfl rfl rfl rfl rfl rfl ⟨rfl, rfl, rfl, rfl, rfl⟩ rfl rfl rfl rfl rfl (by kernel_rfl) Tryd.func6 (by kernel_rfl)
    (of_decide_eq_true (by kernel_rfl)) (by unfold Func.isWrapper; first | (rw [if_pos (by decide +kernel)]; kernel_rfl) | (rw [if_neg (by decide +kernel)]; exact ⟨rfl, rfl⟩))
    (fun os started H enc _ => lifted os started H enc)

theorem plain (f : FuncId) (fn : Func) (hf : Tryd.pinned.checked.prog.funcNamed Tryd.f6.name = some f) (hfn : Tryd.pinned.checked.prog.funcs[f]? = some fn) :
    false = Tryd.pinned.checked.prog.looks [] ∧ ∀ (j : Nat) t, fn.params[j]? = some t → Tryd.pinned.checked.prog.wantsStandIn t = false := by
  obtain rfl : f = 6 := Option.some.inj ((show Tryd.prog.funcNamed Tryd.f6.name = some 6 by kernel_rfl).symm.trans hf) |>.symm
  obtain rfl : fn = Tryd.f6 := (Option.some.inj (Tryd.func6.symm.trans hfn)).symm
  refine ⟨by kernel_rfl, fun j t ht => ?_⟩
  rw [Tryd.params6] at ht
  have hm : t ∈ [22] := by simpa using Array.mem_of_getElem? ht
  have hall : ([22].all fun u => !Tryd.prog.wantsStandIn u) = true := by kernel_rfl
  exact (show Tryd.prog.wantsStandIn t = false from Bool.not_eq_true' _ |>.mp (List.all_eq_true.1 hall t hm))

theorem card : Rows.LinesSplitsCardSaid :=
  Claim7.holds_tied_plain_at .later [] _ _ _ _ said (fun _ h => by cases h) (by kernel_rfl) (fun _ h => by cases h) linesSplits_row_tie rfl ⟨rfl, rfl⟩ (by kernel_rfl) rfl plain (by kernel_rfl)
#print axioms card
end Go.Proofs.YtjdjacnlobjmgaaDoor.Splits
