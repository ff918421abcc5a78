/- What items comes to. -/
import Derived.Test.YtaefnlknendapaaPtA
namespace Go.Proofs.PlatenLayout
open Go Go.RowKit Go.Shelf
set_option linter.unusedVariables false
set_option maxRecDepth 100000

theorem ptx_str : ∀ k, k < 9 → ({ data := #[97, 98, 99, 100, 101, 102, 103, 104, 105, 106, 107, 108, 109, 110, 111, 112, 113, 114, 115, 116, 117, 118, 119, 120, 121, 122] } : ByteArray).extract 0 k = str (ptx k false) ∧ ({ data := #[97, 98, 99, 100, 101, 102, 103, 104, 105, 106, 107, 108, 109, 110, 111, 112, 113, 114, 115, 116, 117, 118, 119, 120, 121, 122] } : ByteArray).extract 0 k ++ ({ data := #[195, 169] } : ByteArray) = str (ptx k true) := by decide +kernel
theorem cell_of'' {w : World} {k : Nat} {x : Array Value} {t : TypeId} (h : w.heap[k]? = some (.cells x t (0, 0))) (j : Nat) : w.cell? ⟨k, j, none⟩ = x[j]? := by simp [World.cell?, h]
set_option maxHeartbeats 8000000 in
theorem items_any {v : Value} {l : List Pt} {w : World} (h : IsParts w v l) (hl : l.length ≤ 100) :
    Calls Try.prog 12 #[v] w fun e w' => ∃ u, e = .returned u ∧ w'.ownsRow w.heap.size 38 6 u l.length (rowI (l.map itemOf)) ∧ Below w.heap.size w w' := by
  obtain ⟨i38, hi38, hz38, hy38, hb38⟩ := info_parts info38
  obtain ⟨_, a, cap, rfl, hp⟩ := id h
  have HL := hidden h
  obtain ⟨n, hn⟩ : ∃ n, l.length = n := ⟨_, rfl⟩
  rw [hn] at hl ⊢
  have Hn := hidden hn
  clear h hn hp
  go_enter Try.func12, Try.ntmps12
  go_wp2_with fail
  go_loopw [3, 4] (fun ov iv wr => ∃ k : Nat, k ≤ n ∧ iv = .int .i64 (k : Nat) ∧ wr.ownsRow w.heap.size 38 6 ov k (rowI ((l.map itemOf).take k)) ∧ Below w.heap.size w wr) (fun _ iv _ => n - (intOf iv).toNat)
  case atStart => exact ⟨0, Nat.zero_le _, rfl, World.ownsRow_nil _ _ _ _, Below.refl _ _⟩
  case round =>
    obtain ⟨k, hk, rfl, R, hb⟩ := hrel
    by_cases hlt : k < n
    · have hll : k < l.length := by rw [Hn.out]; exact hlt
      have hlz : (k : Int) < (n : Int) := by omega
      obtain ⟨p, hp⟩ : ∃ p, l[k] = p := ⟨_, rfl⟩
      have hpk : l[k]? = some p := by rw [← hp]; exact List.getElem?_eq_getElem hll
      obtain ⟨_, a', cap', hv, hps⟩ := HL.out.below hb
      obtain ⟨pok, b, off, ha, c0, c1, c2, c3⟩ := hps k p hpk
      injection hv with hv1 hv2 hv3
      subst hv1 hv3 ha
      have hpn := pok.n
      have hpo := pok.o
      have hpl := pok.l
      have hpkd := pok.k
      have wr1 : IntKind.i64.wrap p.n = p.n := IntWalk.i64_in _ (by omega)
      have wr2 : IntKind.i64.wrap p.off = p.off := IntWalk.i64_in _ (by omega)
      have HPK := hidden hpk
      have HOK := hidden pok
      have HR := hidden R
      have HB := hidden hb
      have hy6 := Nat.mod_lt p.kind (show 0 < 6 by decide)
      obtain ⟨y, hy⟩ : ∃ y, p.kind % 6 = y := ⟨_, rfl⟩
      obtain ⟨c, hc⟩ : ∃ c, decide (p.like % 2 = 1) = c := ⟨_, rfl⟩
      obtain ⟨d, hd⟩ : ∃ d, decide (p.like / 2 % 2 = 1) = d := ⟨_, rfl⟩
      obtain ⟨e7, he7⟩ : ∃ e, decide (p.like % 8 = 7) = e := ⟨_, rfl⟩
      obtain ⟨f12, hf12⟩ : ∃ f, decide (p.like % 16 < 12) = f := ⟨_, rfl⟩
      obtain ⟨U, hU⟩ : ∃ U, p.u = U := ⟨_, rfl⟩
      have hU2 : U < 65536 := by rw [← hU]; unfold Pt.u; omega
      obtain ⟨U9, hU9⟩ : ∃ U9, U % 9 = U9 := ⟨_, rfl⟩
      obtain ⟨U3, hU3⟩ : ∃ U3, U % 3 = U3 := ⟨_, rfl⟩
      have hU9b : U9 < 9 := by omega
      have hU3b : U3 < 3 := by omega
      obtain ⟨h2, hh2⟩ : ∃ h2, p.like / 2 = h2 := ⟨_, rfl⟩
      obtain ⟨L2, hL2⟩ : ∃ L2, p.like % 2 = L2 := ⟨_, rfl⟩
      obtain ⟨M2, hM2⟩ : ∃ L2, h2 % 2 = L2 := ⟨_, rfl⟩
      obtain ⟨L8, hL8⟩ : ∃ L8, p.like % 8 = L8 := ⟨_, rfl⟩
      obtain ⟨L16, hL16⟩ : ∃ L16, p.like % 16 = L16 := ⟨_, rfl⟩
      have tm6 : ((p.kind : Nat) : Int).tmod 6 = (y : Int) := by rw [Int.tmod_eq_emod_of_nonneg (by omega)]; omega
      have tm2 : ((p.like : Nat) : Int).tmod 2 = (L2 : Int) := by rw [Int.tmod_eq_emod_of_nonneg (by omega)]; omega
      have wh2 : IntKind.u8.wrap (((p.like : Nat) : Int) / 2) = (h2 : Int) := by rw [show ((p.like : Nat) : Int) / 2 = (h2 : Int) by omega]; exact IntWalk.u8_in _ (by omega)
      have tn2 : (h2 : Int).tmod 2 = (M2 : Int) := by rw [Int.tmod_eq_emod_of_nonneg (by omega)]; omega
      have tm8 : ((p.like : Nat) : Int).tmod 8 = (L8 : Int) := by rw [Int.tmod_eq_emod_of_nonneg (by omega)]; omega
      have tm16 : ((p.like : Nat) : Int).tmod 16 = (L16 : Int) := by rw [Int.tmod_eq_emod_of_nonneg (by omega)]; omega
      have b2 : ((L2 : Int) == 1) = c := by rw [← hc, ← hL2]; by_cases q : p.like % 2 = 1 <;> simp [q] <;> omega
      have bm2 : ((M2 : Int) == 1) = d := by rw [← hd, hh2, hM2]; by_cases q : M2 = 1 <;> simp [q] <;> omega
      have b8 : ((L8 : Int) == 7) = e7 := by rw [← he7, hL8]; by_cases q : L8 = 7 <;> simp [q] <;> omega
      have wru : IntKind.u16.wrap p.n = (U : Int) := by rw [← hU]; unfold Pt.u; show p.n % 65536 = _; omega
      have tu9 : (U : Int).tmod 9 = (U9 : Int) := by rw [Int.tmod_eq_emod_of_nonneg (by omega)]; omega
      have tu3 : (U : Int).tmod 3 = (U3 : Int) := by rw [Int.tmod_eq_emod_of_nonneg (by omega)]; omega
      have HITM : Hid (itemOf p = ⟨y, if y = 1 then ptx U9 e7 else [], if y = 1 then U9 + (if e7 = true then 1 else 0) else 0, if f12 = true ∧ y = 2 then (U3 : Int) else p.n, p.off, c, d⟩) := by
        unfold Hid itemOf
        rw [hy, hU, hU9, hU3, he7, hc, hd, ← he7, ← hf12]
        simp
      have hf16 : decide ((L16 : Int) < 12) = f12 := by rw [← hf12, hL16]; apply decide_eq_decide.2; omega
      clear hp hpk hps hv2 R hb pok hy hc hd he7 hf12 hU hU9 hU3 hh2 hL2 hM2 hL8 hL16
      have CA : ∀ (a : Addr) {u : Value}, wr.cell? a = some u → (wr.alloc (.cells #[.int .u8 0, .string { data := #[] }, .int .i64 0, .int .i64 0, .bool false, .bool false] 38)).drew.cell? a = wr.cell? a := fun a u hu => World.cell?_of_block (Below.heap_alloc wr _ _ (World.block_lt_of_cell? _ _ hu))
      go_wp2_with fail
      refine wp_region_held_drew (S := (fun u => u.cell? ⟨b, off + k * 4, none⟩ = some (.int .u8 (p.kind : Nat)) ∧ u.cell? ⟨b, off + k * 4 + 1, none⟩ = some (.int .i16 p.n) ∧ u.cell? ⟨b, off + k * 4 + 2, none⟩ = some (.int .i8 p.off) ∧ u.cell? ⟨b, off + k * 4 + 3, none⟩ = some (.int .u8 (p.like : Nat)))) (by kernel_rfl) ⟨c0, c1, c2, c3⟩ (fun hHeld => ?_)
      refine take_dst 0 (some 12) rfl rfl (by kernel_rfl) (by kernel_rfl) (by kernel_rfl) (fun _ _ _ h => h) (v := ?_) (Or.inl ⟨by rfl, ?_⟩) (by assumption) ?_
      rotate_left
      · (intro w hSw; (try dsimp only at hSw); go_simp; try with_reducible rfl)
      simp only [Act.put, List.setIfInBounds_toArray, List.set_cons_zero, List.set_cons_succ]
      refine take_dst 1 (some 13) rfl rfl (by kernel_rfl) (by kernel_rfl) (by kernel_rfl) (fun _ _ _ h => h) (v := ?_) (Or.inl ⟨by rfl, ?_⟩) (by assumption) ?_
      rotate_left
      · (intro w hSw; (try dsimp only at hSw); go_simp; try with_reducible rfl)
      simp only [Act.put, List.setIfInBounds_toArray, List.set_cons_zero, List.set_cons_succ]
      refine take_dst 2 (some 14) rfl rfl (by kernel_rfl) (by kernel_rfl) (by kernel_rfl) (fun _ _ _ h => h) (v := ?_) (Or.inl ⟨by rfl, ?_⟩) (by assumption) ?_
      rotate_left
      · (intro w hSw; (try dsimp only at hSw); go_simp; try with_reducible rfl)
      simp only [Act.put, List.setIfInBounds_toArray, List.set_cons_zero, List.set_cons_succ]
      refine take_dst 3 (some 15) rfl rfl (by kernel_rfl) (by kernel_rfl) (by kernel_rfl) (fun _ _ _ h => h) (v := ?_) (Or.inl ⟨by rfl, ?_⟩) (by assumption) ?_
      rotate_left
      · (intro w hSw; (try dsimp only at hSw); go_simp; try with_reducible rfl)
      simp only [Act.put, List.setIfInBounds_toArray, List.set_cons_zero, List.set_cons_succ]
      refine take_dst 4 (some 16) rfl rfl (by kernel_rfl) (by kernel_rfl) (by kernel_rfl) (fun _ _ _ h => h) (v := ?_) (Or.inl ⟨by rfl, ?_⟩) (by assumption) ?_
      rotate_left
      · (intro w hSw; (try dsimp only at hSw); go_simp; try with_reducible rfl)
      simp only [Act.put, List.setIfInBounds_toArray, List.set_cons_zero, List.set_cons_succ]
      refine take_dst 5 (some 17) rfl rfl (by kernel_rfl) (by kernel_rfl) (by kernel_rfl) (fun _ _ _ h => h) (v := ?_) (Or.inl ⟨by rfl, ?_⟩) (by assumption) ?_
      rotate_left
      · (intro w hSw; (try dsimp only at hSw); go_simp; try with_reducible rfl)
      simp only [Act.put, List.setIfInBounds_toArray, List.set_cons_zero, List.set_cons_succ]
      refine take_dst 6 (some 18) rfl rfl (by kernel_rfl) (by kernel_rfl) (by kernel_rfl) (fun _ _ _ h => h) (v := ?_) (Or.inl ⟨by rfl, ?_⟩) (by assumption) ?_
      rotate_left
      · (intro w hSw; (try dsimp only at hSw); go_simp; try with_reducible rfl)
      simp only [Act.put, List.setIfInBounds_toArray, List.set_cons_zero, List.set_cons_succ]
      refine take_dst 7 (some 19) rfl rfl (by kernel_rfl) (by kernel_rfl) (by kernel_rfl) (fun _ _ _ h => h) (v := ?_) (Or.inl ⟨by rfl, ?_⟩) (by assumption) ?_
      rotate_left
      · (intro w hSw; (try dsimp only at hSw); go_simp; try with_reducible rfl)
      simp only [Act.put, List.setIfInBounds_toArray, List.set_cons_zero, List.set_cons_succ]
      refine take_dst 8 (some 20) rfl rfl (by kernel_rfl) (by kernel_rfl) (by kernel_rfl) (fun _ _ _ h => h) (v := ?_) (Or.inl ⟨by rfl, ?_⟩) (by assumption) ?_
      rotate_left
      · (intro w hSw; (try dsimp only at hSw); go_simp; try with_reducible rfl)
      simp only [Act.put, List.setIfInBounds_toArray, List.set_cons_zero, List.set_cons_succ]
      refine take_dst 9 (some 21) rfl rfl (by kernel_rfl) (by kernel_rfl) (by kernel_rfl) (fun _ _ _ h => h) (v := ?_) (Or.inl ⟨by rfl, ?_⟩) (by assumption) ?_
      rotate_left
      · (intro w hSw; (try dsimp only at hSw); go_simp; try with_reducible rfl)
      simp only [Act.put, List.setIfInBounds_toArray, List.set_cons_zero, List.set_cons_succ]
      refine take_dst 10 (some 22) rfl rfl (by kernel_rfl) (by kernel_rfl) (by kernel_rfl) (fun _ _ _ h => h) (v := ?_) (Or.inl ⟨by rfl, ?_⟩) (by assumption) ?_
      rotate_left
      · (intro w hSw; (try dsimp only at hSw); go_simp; try with_reducible rfl)
      simp only [Act.put, List.setIfInBounds_toArray, List.set_cons_zero, List.set_cons_succ]
      refine take_dst 11 (some 23) rfl rfl (by kernel_rfl) (by kernel_rfl) (by kernel_rfl) (fun _ _ _ h => h) (v := ?_) (Or.inl ⟨by rfl, ?_⟩) (by assumption) ?_
      rotate_left
      · (intro w hSw; (try dsimp only at hSw); go_simp; try with_reducible rfl)
      simp only [Act.put, List.setIfInBounds_toArray, List.set_cons_zero, List.set_cons_succ]
      refine take_dst 12 (some 24) rfl rfl (by kernel_rfl) (by kernel_rfl) (by kernel_rfl) (fun _ _ _ h => h) (v := ?_) (Or.inl ⟨by rfl, ?_⟩) (by assumption) ?_
      rotate_left
      · (intro w hSw; (try dsimp only at hSw); go_simp; try with_reducible rfl)
      simp only [Act.put, List.setIfInBounds_toArray, List.set_cons_zero, List.set_cons_succ]
      refine take_dst 13 (some 25) rfl rfl (by kernel_rfl) (by kernel_rfl) (by kernel_rfl) (fun _ _ _ h => h) (v := ?_) (Or.inl ⟨by rfl, ?_⟩) (by assumption) ?_
      rotate_left
      · (intro w hSw; (try dsimp only at hSw); go_simp; try with_reducible rfl)
      simp only [Act.put, List.setIfInBounds_toArray, List.set_cons_zero, List.set_cons_succ]
      refine take_dst 14 (some 26) rfl rfl (by kernel_rfl) (by kernel_rfl) (by kernel_rfl) (fun _ _ _ h => h) (v := ?_) (Or.inl ⟨by rfl, ?_⟩) (by assumption) ?_
      rotate_left
      · (intro w hSw; (try dsimp only at hSw); go_simp; try with_reducible rfl)
      simp only [Act.put, List.setIfInBounds_toArray, List.set_cons_zero, List.set_cons_succ]
      refine take_dst 15 (some 27) rfl rfl (by kernel_rfl) (by kernel_rfl) (by kernel_rfl) (fun _ _ _ h => h) (v := ?_) (Or.inl ⟨by rfl, ?_⟩) (by assumption) ?_
      rotate_left
      · (intro w hSw; (try dsimp only at hSw); go_simp; try with_reducible rfl)
      simp only [Act.put, List.setIfInBounds_toArray, List.set_cons_zero, List.set_cons_succ]
      refine take_dst 16 (some 28) rfl rfl (by kernel_rfl) (by kernel_rfl) (by kernel_rfl) (fun _ _ _ h => h) (v := ?_) (Or.inl ⟨by rfl, ?_⟩) (by assumption) ?_
      rotate_left
      · (intro w hSw; (try dsimp only at hSw); go_simp; try with_reducible rfl)
      simp only [Act.put, List.setIfInBounds_toArray, List.set_cons_zero, List.set_cons_succ]
      refine take_dst 17 (some 29) rfl rfl (by kernel_rfl) (by kernel_rfl) (by kernel_rfl) (fun _ _ _ h => h) (v := ?_) (Or.inl ⟨by rfl, ?_⟩) (by assumption) ?_
      rotate_left
      · (intro w hSw; (try dsimp only at hSw); go_simp; try with_reducible rfl)
      simp only [Act.put, List.setIfInBounds_toArray, List.set_cons_zero, List.set_cons_succ]
      refine take_dst 18 (some 30) rfl rfl (by kernel_rfl) (by kernel_rfl) (by kernel_rfl) (fun _ _ _ h => h) (v := ?_) (Or.inl ⟨by rfl, ?_⟩) (by assumption) ?_
      rotate_left
      · (intro w hSw; (try dsimp only at hSw); go_simp; try with_reducible rfl)
      simp only [Act.put, List.setIfInBounds_toArray, List.set_cons_zero, List.set_cons_succ]
      refine take_dst 19 (some 31) rfl rfl (by kernel_rfl) (by kernel_rfl) (by kernel_rfl) (fun _ _ _ h => h) (v := ?_) (Or.inl ⟨by rfl, ?_⟩) (by assumption) ?_
      rotate_left
      · (intro w hSw; (try dsimp only at hSw); go_simp; try with_reducible rfl)
      simp only [Act.put, List.setIfInBounds_toArray, List.set_cons_zero, List.set_cons_succ]
      refine take_dst 20 (some 32) rfl rfl (by kernel_rfl) (by kernel_rfl) (by kernel_rfl) (fun _ _ _ h => h) (v := ?_) (Or.inl ⟨by rfl, ?_⟩) (by assumption) ?_
      rotate_left
      · (intro w hSw; (try dsimp only at hSw); go_simp; try with_reducible rfl)
      simp only [Act.put, List.setIfInBounds_toArray, List.set_cons_zero, List.set_cons_succ]
      refine take_dst 21 (some 33) rfl rfl (by kernel_rfl) (by kernel_rfl) (by kernel_rfl) (fun _ _ _ h => h) (v := ?_) (Or.inl ⟨by rfl, ?_⟩) (by assumption) ?_
      rotate_left
      · (intro w hSw; (try dsimp only at hSw); go_simp; try with_reducible rfl)
      simp only [Act.put, List.setIfInBounds_toArray, List.set_cons_zero, List.set_cons_succ]
      refine take_dst 22 (some 34) rfl rfl (by kernel_rfl) (by kernel_rfl) (by kernel_rfl) (fun _ _ _ h => h) (v := ?_) (Or.inl ⟨by rfl, ?_⟩) (by assumption) ?_
      rotate_left
      · (intro w hSw; (try dsimp only at hSw); go_simp; try with_reducible rfl)
      simp only [Act.put, List.setIfInBounds_toArray, List.set_cons_zero, List.set_cons_succ]
      refine take_dst 23 (some 35) rfl rfl (by kernel_rfl) (by kernel_rfl) (by kernel_rfl) (fun _ _ _ h => h) (v := ?_) (Or.inl ⟨by rfl, ?_⟩) (by assumption) ?_
      rotate_left
      · (intro w hSw; (try dsimp only at hSw); go_simp; try with_reducible rfl)
      simp only [Act.put, List.setIfInBounds_toArray, List.set_cons_zero, List.set_cons_succ]
      refine take_dst 24 (some 36) rfl rfl (by kernel_rfl) (by kernel_rfl) (by kernel_rfl) (fun _ _ _ h => h) (v := ?_) (Or.inl ⟨by rfl, ?_⟩) (by assumption) ?_
      rotate_left
      · (intro w hSw; (try dsimp only at hSw); go_simp; try with_reducible rfl)
      simp only [Act.put, List.setIfInBounds_toArray, List.set_cons_zero, List.set_cons_succ]
      refine take_dst 25 (some 37) rfl rfl (by kernel_rfl) (by kernel_rfl) (by kernel_rfl) (fun _ _ _ h => h) (v := ?_) (Or.inl ⟨by rfl, ?_⟩) (by assumption) ?_
      rotate_left
      · (intro w hSw; (try dsimp only at hSw); go_simp; try with_reducible rfl)
      simp only [Act.put, List.setIfInBounds_toArray, List.set_cons_zero, List.set_cons_succ]
      refine take_dst 26 (some 38) rfl rfl (by kernel_rfl) (by kernel_rfl) (by kernel_rfl) (fun _ _ _ h => h) (v := ?_) (Or.inl ⟨by rfl, ?_⟩) (by assumption) ?_
      rotate_left
      · (intro w hSw; (try dsimp only at hSw); go_simp; try with_reducible rfl)
      simp only [Act.put, List.setIfInBounds_toArray, List.set_cons_zero, List.set_cons_succ]
      refine take_dst 27 (some 39) rfl rfl (by kernel_rfl) (by kernel_rfl) (by kernel_rfl) (fun _ _ _ h => h) (v := ?_) (Or.inl ⟨by rfl, ?_⟩) (by assumption) ?_
      rotate_left
      · (intro w hSw; (try dsimp only at hSw); go_simp; try with_reducible rfl)
      simp only [Act.put, List.setIfInBounds_toArray, List.set_cons_zero, List.set_cons_succ]
      refine take_dst 28 (some 40) rfl rfl (by kernel_rfl) (by kernel_rfl) (by kernel_rfl) (fun _ _ _ h => h) (v := ?_) (Or.inl ⟨by rfl, ?_⟩) (by assumption) ?_
      rotate_left
      · (intro w hSw; (try dsimp only at hSw); go_simp; try with_reducible rfl)
      simp only [Act.put, List.setIfInBounds_toArray, List.set_cons_zero, List.set_cons_succ]
      refine take_dst 29 (some 41) rfl rfl (by kernel_rfl) (by kernel_rfl) (by kernel_rfl) (fun _ _ _ h => h) (v := ?_) (Or.inl ⟨by rfl, ?_⟩) (by assumption) ?_
      rotate_left
      · (intro w hSw; (try dsimp only at hSw); go_simp; try with_reducible rfl)
      simp only [Act.put, List.setIfInBounds_toArray, List.set_cons_zero, List.set_cons_succ]
      refine take_dst 30 (some 42) rfl rfl (by kernel_rfl) (by kernel_rfl) (by kernel_rfl) (fun _ _ _ h => h) (v := ?_) (Or.inl ⟨by rfl, ?_⟩) (by assumption) ?_
      rotate_left
      · (intro w hSw; (try dsimp only at hSw); go_simp; try with_reducible rfl)
      simp only [Act.put, List.setIfInBounds_toArray, List.set_cons_zero, List.set_cons_succ]
      refine take_dst 31 (some 43) rfl rfl (by kernel_rfl) (by kernel_rfl) (by kernel_rfl) (fun _ _ _ h => h) (v := ?_) (Or.inl ⟨by rfl, ?_⟩) (by assumption) ?_
      rotate_left
      · (intro w hSw; (try dsimp only at hSw); go_simp; try with_reducible rfl)
      simp only [Act.put, List.setIfInBounds_toArray, List.set_cons_zero, List.set_cons_succ]
      refine take_dst 32 (some 44) rfl rfl (by kernel_rfl) (by kernel_rfl) (by kernel_rfl) (fun _ _ _ h => h) (v := ?_) (Or.inl ⟨by rfl, ?_⟩) (by assumption) ?_
      rotate_left
      · (intro w hSw; (try dsimp only at hSw); go_simp; try with_reducible rfl)
      simp only [Act.put, List.setIfInBounds_toArray, List.set_cons_zero, List.set_cons_succ]
      refine take_dst 33 (some 45) rfl rfl (by kernel_rfl) (by kernel_rfl) (by kernel_rfl) (fun _ _ _ h => h) (v := ?_) (Or.inl ⟨by rfl, ?_⟩) (by assumption) ?_
      rotate_left
      · (intro w hSw; (try dsimp only at hSw); go_simp; try with_reducible rfl)
      simp only [Act.put, List.setIfInBounds_toArray, List.set_cons_zero, List.set_cons_succ]
      refine wpAnyH_ready (rs := [34]) (by kernel_rfl) (by simp) ?_
      refine AllReadyH.cons rfl (fun K hK => ?_) AllReadyH.nil
      go_simp
      refine hK.out _ _ ⟨by rw [← c0]; exact CA _ c0, by rw [← c1]; exact CA _ c1, by rw [← c2]; exact CA _ c2, by rw [← c3]; exact CA _ c3⟩ (fun hHeld1 => ?_)
      clear hK K
      refine wpAnyH_ready (rs := [35]) (by kernel_rfl) (by simp) ?_
      refine AllReadyH.cons rfl (fun K hK => ?_) AllReadyH.nil
      go_simp
      have CB : ∀ (a : Addr) {u : Value}, wr.cell? a = some u → (wr.alloc (.cells #[.int .u8 (y : Nat), .string { data := #[] }, .int .i64 p.n, .int .i64 p.off, .bool c, .bool d] 38)).drew.cell? a = wr.cell? a := fun a u hu => World.cell?_of_block (Below.heap_alloc wr _ _ (World.block_lt_of_cell? _ _ hu))
      refine hK.out _ _ ⟨by rw [← c0]; exact CB _ c0, by rw [← c1]; exact CB _ c1, by rw [← c2]; exact CB _ c2, by rw [← c3]; exact CB _ c3⟩ (fun hHeld2 => ?_)
      clear hK K
      refine wpAnyH_done (by kernel_rfl) ?_ _
      have d1 : (wr.alloc (.cells #[.int .u8 (y : Nat), .string { data := #[] }, .int .i64 p.n, .int .i64 p.off, .bool c, .bool d] 38)).drew.cell? ⟨b, off + k * 4 + 1, none⟩ = some (.int .i16 p.n) := by rw [← c1]; exact CB _ c1
      have d3 : (wr.alloc (.cells #[.int .u8 (y : Nat), .string { data := #[] }, .int .i64 p.n, .int .i64 p.off, .bool c, .bool d] 38)).drew.cell? ⟨b, off + k * 4 + 3, none⟩ = some (.int .u8 (p.like : Nat)) := by rw [← c3]; exact CB _ c3
      have hbM : b ≠ wr.heap.size := by have := World.block_lt_of_cell? _ _ c1; simp at this; omega
      have hM : (wr.alloc (.cells #[.int .u8 (y : Nat), .string { data := #[] }, .int .i64 p.n, .int .i64 p.off, .bool c, .bool d] 38)).drew.heap[wr.heap.size]? = some (.cells #[.int .u8 (y : Nat), .string { data := #[] }, .int .i64 p.n, .int .i64 p.off, .bool c, .bool d] 38 (0, 0)) := heap_alloc_new _ _
      have hr2 : (wr.alloc (.cells #[.int .u8 (y : Nat), .string { data := #[] }, .int .i64 p.n, .int .i64 p.off, .bool c, .bool d] 38)).drew.ownsRow w.heap.size 38 6 u3 k (rowI ((l.map itemOf).take k)) := row_grown HR.out (grown_trans (grownBy_alloc wr _) (grown_d _)) (by simp)
      have hb2 : Below w.heap.size w (wr.alloc (.cells #[.int .u8 (y : Nat), .string { data := #[] }, .int .i64 p.n, .int .i64 p.off, .bool c, .bool d] 38)).drew := below_drew (HB.out.alloc HB.out.size _)
      have hsz : w.heap.size ≤ wr.heap.size := HB.out.size
      have hrM : u3.ownBlock ≠ some wr.heap.size := fun e => by have := (HR.out.lt _ e).2; omega
      generalize (wr.alloc (.cells #[.int .u8 (y : Nat), .string { data := #[] }, .int .i64 p.n, .int .i64 p.off, .bool c, .bool d] 38)).drew = W at *
      generalize wr.heap.size = M at *
      have m0 := cell_of'' hM 0
      have m1 := cell_of'' hM 1
      have m2 := cell_of'' hM 2
      have m3 := cell_of'' hM 3
      have m4 := cell_of'' hM 4
      have m5 := cell_of'' hM 5
      simp only [List.getElem?_toArray, List.getElem?_cons_zero, List.getElem?_cons_succ] at m0 m1 m2 m3 m4 m5
      have fM := fun j => frozen_of_row W M j _ 38 hM
      have HM := hidden hM
      have HR2 := hidden hr2
      have HB2 := hidden hb2
      clear CA CB c0 c1 c2 c3 hHeld hHeld1 hHeld2 hM hr2 hb2 HR HB tm6 tm2 wh2 tn2 b2 bm2
      obtain ⟨T, hT⟩ : ∃ T, ({ data := #[97, 98, 99, 100, 101, 102, 103, 104, 105, 106, 107, 108, 109, 110, 111, 112, 113, 114, 115, 116, 117, 118, 119, 120, 121, 122] } : ByteArray).extract 0 U9 = T := ⟨_, rfl⟩
      obtain ⟨T2, hT2⟩ : ∃ T2, T ++ ({ data := #[195, 169] } : ByteArray) = T2 := ⟨_, rfl⟩
      have HT : Hid (T = str (ptx U9 false)) := by unfold Hid; rw [← hT]; exact (ptx_str U9 hU9b).1
      have HT2 : Hid (T2 = str (ptx U9 true)) := by unfold Hid; rw [← hT2, ← hT]; exact (ptx_str U9 hU9b).2
      have hTs : T.size ≤ 10 := by rw [HT.out, str_size]; exact (ptx_cnt U9 hU9b false).2.1
      have HTK : Hid ((l.map itemOf).take (k + 1) = (l.map itemOf).take k ++ [itemOf p]) := by unfold Hid; rw [List.take_add_one, List.getElem?_map, HPK.out]; rfl
      cases f12 with
      | true =>
        have z12 : (L16 : Int) < 12 := of_decide_eq_true hf16
        clear hf16
        by_cases k1 : y = 1
        · have z1 : ((y : Int) == 1) = true := by simp; omega
          have z2 : ((y : Int) == 2) = false := by simp; omega
          have K1 := hidden k1
          have K2 : Hid (¬ y = 2) := by unfold Hid; omega
          clear k1
          cases e7 with
          | true =>
            have hown := ((show ((W.setCell ⟨M, 1, none⟩ (.string T)).setCell ⟨M, 1, none⟩ (.string T2)).ownsRow w.heap.size 38 6 u3 k (rowI ((l.map itemOf).take k)) from (row_same ((row_same (HR2.out) (fun q hq => set_other _ M _ _ q (fun e => hrM (by rw [hq, e]))))) (fun q hq => set_other _ M _ _ q (fun e => hrM (by rw [hq, e])))))).alloc (.cells #[.int .u8 (y : Nat), .string T2, .int .i64 p.n, .int .i64 p.off, .bool c, .bool d] 38)
            have hbF : Below w.heap.size w (((W.setCell ⟨M, 1, none⟩ (.string T)).setCell ⟨M, 1, none⟩ (.string T2))) := ((((HB2.out).setCell (p := ⟨M, _, none⟩) hsz _)).setCell (p := ⟨M, _, none⟩) hsz _)
            have hBs : w.heap.size ≤ ((((W.setCell ⟨M, 1, none⟩ (.string T)).setCell ⟨M, 1, none⟩ (.string T2))).alloc (.cells #[.int .u8 (y : Nat), .string T2, .int .i64 p.n, .int .i64 p.off, .bool c, .bool d] 38)).heap.size := by have := hbF.size; simp only [World.size_alloc]; omega
            have cn := cells_new (((W.setCell ⟨M, 1, none⟩ (.string T)).setCell ⟨M, 1, none⟩ (.string T2))) 38 [.int .u8 (y : Nat), .string T2, .int .i64 p.n, .int .i64 p.off, .bool c, .bool d]
            have hszF : (((W.setCell ⟨M, 1, none⟩ (.string T)).setCell ⟨M, 1, none⟩ (.string T2))).heap.size = W.heap.size := by simp
            rw [hszF] at cn
            have HBF := hidden (hbF.alloc hbF.size (.cells #[.int .u8 (y : Nat), .string T2, .int .i64 p.n, .int .i64 p.off, .bool c, .bool d] 38))
            have q3 : k + 1 ≤ maxLen := by unfold maxLen; omega
            have q4 : (k + 1) * 48 ≤ 140737488355328 := by omega
            have HCE : Hid (itC (itemOf p) = [.int .u8 (y : Nat), .string T2, .int .i64 p.n, .int .i64 p.off, .bool c, .bool d]) := by
              unfold Hid
              rw [HITM.out]
              simp [itC, K1.out, HT2.out]
            have one6 : ∀ u ∈ [Value.int .u8 (y : Nat), .string T2, .int .i64 p.n, .int .i64 p.off, .bool c, .bool d], u.oneCell' = true := by
              intro u hu
              simp at hu
              rcases hu with rfl | rfl | rfl | rfl | rfl | rfl <;> rfl
            clear hbF hszF
            go_wp2_with (at_builtin; refine wpList_append_own _ rfl _ _ 24 rfl w.heap.size 38 i38 (.agg #[.int .u8 0, .string ByteArray.empty, .int .i64 0, .int .i64 0, .bool false, .bool false]) 6 48 Try.underlying24 hi38 hz38 hy38 hb38 rfl (by decide) _ _ _ rfl hown ⟨W.heap.size, 0, none⟩ 1 1 [.int .u8 (y : Nat), .string T2, .int .i64 p.n, .int .i64 p.off, .bool c, .bool d] rfl rfl cn one6 q3 q4 hBs ?_)
            intro v' w7 hr7 hg7 _
            have HR7 : Hid (w7.ownsRow w.heap.size 38 6 v' (k + 1) (rowI ((l.map itemOf).take (k + 1)))) := by
              unfold Hid
              rw [HTK.out, rowI_app, rowI_one, HCE.out]
              exact hr7
            have HB7 := hidden (HBF.out.grown hg7 hBs (fun q hq => (hown.lt q hq).1))
            clear hr7 hg7 hown cn hBs
            go_wp2_with fail
            go_roundw
            case rel => exact ⟨k + 1, hlt, by go_num, HR7.out, HB7.out⟩
            case measure => simp [intOf]; omega
          | false =>
            have hown := ((show (W.setCell ⟨M, 1, none⟩ (.string T)).ownsRow w.heap.size 38 6 u3 k (rowI ((l.map itemOf).take k)) from (row_same (HR2.out) (fun q hq => set_other _ M _ _ q (fun e => hrM (by rw [hq, e])))))).alloc (.cells #[.int .u8 (y : Nat), .string T, .int .i64 p.n, .int .i64 p.off, .bool c, .bool d] 38)
            have hbF : Below w.heap.size w ((W.setCell ⟨M, 1, none⟩ (.string T))) := ((HB2.out).setCell (p := ⟨M, _, none⟩) hsz _)
            have hBs : w.heap.size ≤ (((W.setCell ⟨M, 1, none⟩ (.string T))).alloc (.cells #[.int .u8 (y : Nat), .string T, .int .i64 p.n, .int .i64 p.off, .bool c, .bool d] 38)).heap.size := by have := hbF.size; simp only [World.size_alloc]; omega
            have cn := cells_new ((W.setCell ⟨M, 1, none⟩ (.string T))) 38 [.int .u8 (y : Nat), .string T, .int .i64 p.n, .int .i64 p.off, .bool c, .bool d]
            have hszF : ((W.setCell ⟨M, 1, none⟩ (.string T))).heap.size = W.heap.size := by simp
            rw [hszF] at cn
            have HBF := hidden (hbF.alloc hbF.size (.cells #[.int .u8 (y : Nat), .string T, .int .i64 p.n, .int .i64 p.off, .bool c, .bool d] 38))
            have q3 : k + 1 ≤ maxLen := by unfold maxLen; omega
            have q4 : (k + 1) * 48 ≤ 140737488355328 := by omega
            have HCE : Hid (itC (itemOf p) = [.int .u8 (y : Nat), .string T, .int .i64 p.n, .int .i64 p.off, .bool c, .bool d]) := by
              unfold Hid
              rw [HITM.out]
              simp [itC, K1.out, HT.out]
            have one6 : ∀ u ∈ [Value.int .u8 (y : Nat), .string T, .int .i64 p.n, .int .i64 p.off, .bool c, .bool d], u.oneCell' = true := by
              intro u hu
              simp at hu
              rcases hu with rfl | rfl | rfl | rfl | rfl | rfl <;> rfl
            clear hbF hszF
            go_wp2_with (at_builtin; refine wpList_append_own _ rfl _ _ 24 rfl w.heap.size 38 i38 (.agg #[.int .u8 0, .string ByteArray.empty, .int .i64 0, .int .i64 0, .bool false, .bool false]) 6 48 Try.underlying24 hi38 hz38 hy38 hb38 rfl (by decide) _ _ _ rfl hown ⟨W.heap.size, 0, none⟩ 1 1 [.int .u8 (y : Nat), .string T, .int .i64 p.n, .int .i64 p.off, .bool c, .bool d] rfl rfl cn one6 q3 q4 hBs ?_)
            intro v' w7 hr7 hg7 _
            have HR7 : Hid (w7.ownsRow w.heap.size 38 6 v' (k + 1) (rowI ((l.map itemOf).take (k + 1)))) := by
              unfold Hid
              rw [HTK.out, rowI_app, rowI_one, HCE.out]
              exact hr7
            have HB7 := hidden (HBF.out.grown hg7 hBs (fun q hq => (hown.lt q hq).1))
            clear hr7 hg7 hown cn hBs
            go_wp2_with fail
            go_roundw
            case rel => exact ⟨k + 1, hlt, by go_num, HR7.out, HB7.out⟩
            case measure => simp [intOf]; omega
        have z1 : ((y : Int) == 1) = false := by simp; omega
        by_cases k2 : y = 2
        · have z2 : ((y : Int) == 2) = true := by simp; omega
          have K1 := hidden k1
          have K2 := hidden k2
          clear k1 k2
          have hown := ((show (W.setCell ⟨M, 2, none⟩ (.int .i64 (U3 : Nat))).ownsRow w.heap.size 38 6 u3 k (rowI ((l.map itemOf).take k)) from (row_same (HR2.out) (fun q hq => set_other _ M _ _ q (fun e => hrM (by rw [hq, e])))))).alloc (.cells #[.int .u8 (y : Nat), .string { data := #[] }, .int .i64 (U3 : Nat), .int .i64 p.off, .bool c, .bool d] 38)
          have hbF : Below w.heap.size w ((W.setCell ⟨M, 2, none⟩ (.int .i64 (U3 : Nat)))) := ((HB2.out).setCell (p := ⟨M, _, none⟩) hsz _)
          have hBs : w.heap.size ≤ (((W.setCell ⟨M, 2, none⟩ (.int .i64 (U3 : Nat)))).alloc (.cells #[.int .u8 (y : Nat), .string { data := #[] }, .int .i64 (U3 : Nat), .int .i64 p.off, .bool c, .bool d] 38)).heap.size := by have := hbF.size; simp only [World.size_alloc]; omega
          have cn := cells_new ((W.setCell ⟨M, 2, none⟩ (.int .i64 (U3 : Nat)))) 38 [.int .u8 (y : Nat), .string { data := #[] }, .int .i64 (U3 : Nat), .int .i64 p.off, .bool c, .bool d]
          have hszF : ((W.setCell ⟨M, 2, none⟩ (.int .i64 (U3 : Nat)))).heap.size = W.heap.size := by simp
          rw [hszF] at cn
          have HBF := hidden (hbF.alloc hbF.size (.cells #[.int .u8 (y : Nat), .string { data := #[] }, .int .i64 (U3 : Nat), .int .i64 p.off, .bool c, .bool d] 38))
          have q3 : k + 1 ≤ maxLen := by unfold maxLen; omega
          have q4 : (k + 1) * 48 ≤ 140737488355328 := by omega
          have HCE : Hid (itC (itemOf p) = [.int .u8 (y : Nat), .string { data := #[] }, .int .i64 (U3 : Nat), .int .i64 p.off, .bool c, .bool d]) := by
            unfold Hid
            rw [HITM.out]
            simp [itC, K2.out]; rfl
          have one6 : ∀ u ∈ [Value.int .u8 (y : Nat), .string { data := #[] }, .int .i64 (U3 : Nat), .int .i64 p.off, .bool c, .bool d], u.oneCell' = true := by
            intro u hu
            simp at hu
            rcases hu with rfl | rfl | rfl | rfl | rfl | rfl <;> rfl
          clear hbF hszF
          go_wp2_with (at_builtin; refine wpList_append_own _ rfl _ _ 24 rfl w.heap.size 38 i38 (.agg #[.int .u8 0, .string ByteArray.empty, .int .i64 0, .int .i64 0, .bool false, .bool false]) 6 48 Try.underlying24 hi38 hz38 hy38 hb38 rfl (by decide) _ _ _ rfl hown ⟨W.heap.size, 0, none⟩ 1 1 [.int .u8 (y : Nat), .string { data := #[] }, .int .i64 (U3 : Nat), .int .i64 p.off, .bool c, .bool d] rfl rfl cn one6 q3 q4 hBs ?_)
          intro v' w7 hr7 hg7 _
          have HR7 : Hid (w7.ownsRow w.heap.size 38 6 v' (k + 1) (rowI ((l.map itemOf).take (k + 1)))) := by
            unfold Hid
            rw [HTK.out, rowI_app, rowI_one, HCE.out]
            exact hr7
          have HB7 := hidden (HBF.out.grown hg7 hBs (fun q hq => (hown.lt q hq).1))
          clear hr7 hg7 hown cn hBs
          go_wp2_with fail
          go_roundw
          case rel => exact ⟨k + 1, hlt, by go_num, HR7.out, HB7.out⟩
          case measure => simp [intOf]; omega
        have z2 : ((y : Int) == 2) = false := by simp; omega
        have K1 := hidden k1
        have K2 := hidden k2
        clear k1 k2
        have hown := (HR2.out).alloc (.cells #[.int .u8 (y : Nat), .string { data := #[] }, .int .i64 p.n, .int .i64 p.off, .bool c, .bool d] 38)
        have hbF : Below w.heap.size w (W) := HB2.out
        have hBs : w.heap.size ≤ ((W).alloc (.cells #[.int .u8 (y : Nat), .string { data := #[] }, .int .i64 p.n, .int .i64 p.off, .bool c, .bool d] 38)).heap.size := by have := hbF.size; simp only [World.size_alloc]; omega
        have cn := cells_new (W) 38 [.int .u8 (y : Nat), .string { data := #[] }, .int .i64 p.n, .int .i64 p.off, .bool c, .bool d]
        have hszF : (W).heap.size = W.heap.size := by simp
        rw [hszF] at cn
        have HBF := hidden (hbF.alloc hbF.size (.cells #[.int .u8 (y : Nat), .string { data := #[] }, .int .i64 p.n, .int .i64 p.off, .bool c, .bool d] 38))
        have q3 : k + 1 ≤ maxLen := by unfold maxLen; omega
        have q4 : (k + 1) * 48 ≤ 140737488355328 := by omega
        have HCE : Hid (itC (itemOf p) = [.int .u8 (y : Nat), .string { data := #[] }, .int .i64 p.n, .int .i64 p.off, .bool c, .bool d]) := by
          unfold Hid
          rw [HITM.out]
          simp [itC, K1.out, K2.out]; rfl
        have one6 : ∀ u ∈ [Value.int .u8 (y : Nat), .string { data := #[] }, .int .i64 p.n, .int .i64 p.off, .bool c, .bool d], u.oneCell' = true := by
          intro u hu
          simp at hu
          rcases hu with rfl | rfl | rfl | rfl | rfl | rfl <;> rfl
        clear hbF hszF
        go_wp2_with (at_builtin; refine wpList_append_own _ rfl _ _ 24 rfl w.heap.size 38 i38 (.agg #[.int .u8 0, .string ByteArray.empty, .int .i64 0, .int .i64 0, .bool false, .bool false]) 6 48 Try.underlying24 hi38 hz38 hy38 hb38 rfl (by decide) _ _ _ rfl hown ⟨W.heap.size, 0, none⟩ 1 1 [.int .u8 (y : Nat), .string { data := #[] }, .int .i64 p.n, .int .i64 p.off, .bool c, .bool d] rfl rfl cn one6 q3 q4 hBs ?_)
        intro v' w7 hr7 hg7 _
        have HR7 : Hid (w7.ownsRow w.heap.size 38 6 v' (k + 1) (rowI ((l.map itemOf).take (k + 1)))) := by
          unfold Hid
          rw [HTK.out, rowI_app, rowI_one, HCE.out]
          exact hr7
        have HB7 := hidden (HBF.out.grown hg7 hBs (fun q hq => (hown.lt q hq).1))
        clear hr7 hg7 hown cn hBs
        go_wp2_with fail
        go_roundw
        case rel => exact ⟨k + 1, hlt, by go_num, HR7.out, HB7.out⟩
        case measure => simp [intOf]; omega
      | false =>
        have z12 : ¬ ((L16 : Int) < 12) := of_decide_eq_false hf16
        clear hf16
        by_cases k1 : y = 1
        · have z1 : ((y : Int) == 1) = true := by simp; omega
          have z2 : ((y : Int) == 2) = false := by simp; omega
          have K1 := hidden k1
          have K2 : Hid (¬ y = 2) := by unfold Hid; omega
          clear k1
          cases e7 with
          | true =>
            have hown := ((show ((W.setCell ⟨M, 1, none⟩ (.string T)).setCell ⟨M, 1, none⟩ (.string T2)).ownsRow w.heap.size 38 6 u3 k (rowI ((l.map itemOf).take k)) from (row_same ((row_same (HR2.out) (fun q hq => set_other _ M _ _ q (fun e => hrM (by rw [hq, e]))))) (fun q hq => set_other _ M _ _ q (fun e => hrM (by rw [hq, e])))))).alloc (.cells #[.int .u8 (y : Nat), .string T2, .int .i64 p.n, .int .i64 p.off, .bool c, .bool d] 38)
            have hbF : Below w.heap.size w (((W.setCell ⟨M, 1, none⟩ (.string T)).setCell ⟨M, 1, none⟩ (.string T2))) := ((((HB2.out).setCell (p := ⟨M, _, none⟩) hsz _)).setCell (p := ⟨M, _, none⟩) hsz _)
            have hBs : w.heap.size ≤ ((((W.setCell ⟨M, 1, none⟩ (.string T)).setCell ⟨M, 1, none⟩ (.string T2))).alloc (.cells #[.int .u8 (y : Nat), .string T2, .int .i64 p.n, .int .i64 p.off, .bool c, .bool d] 38)).heap.size := by have := hbF.size; simp only [World.size_alloc]; omega
            have cn := cells_new (((W.setCell ⟨M, 1, none⟩ (.string T)).setCell ⟨M, 1, none⟩ (.string T2))) 38 [.int .u8 (y : Nat), .string T2, .int .i64 p.n, .int .i64 p.off, .bool c, .bool d]
            have hszF : (((W.setCell ⟨M, 1, none⟩ (.string T)).setCell ⟨M, 1, none⟩ (.string T2))).heap.size = W.heap.size := by simp
            rw [hszF] at cn
            have HBF := hidden (hbF.alloc hbF.size (.cells #[.int .u8 (y : Nat), .string T2, .int .i64 p.n, .int .i64 p.off, .bool c, .bool d] 38))
            have q3 : k + 1 ≤ maxLen := by unfold maxLen; omega
            have q4 : (k + 1) * 48 ≤ 140737488355328 := by omega
            have HCE : Hid (itC (itemOf p) = [.int .u8 (y : Nat), .string T2, .int .i64 p.n, .int .i64 p.off, .bool c, .bool d]) := by
              unfold Hid
              rw [HITM.out]
              simp [itC, K1.out, HT2.out]
            have one6 : ∀ u ∈ [Value.int .u8 (y : Nat), .string T2, .int .i64 p.n, .int .i64 p.off, .bool c, .bool d], u.oneCell' = true := by
              intro u hu
              simp at hu
              rcases hu with rfl | rfl | rfl | rfl | rfl | rfl <;> rfl
            clear hbF hszF
            go_wp2_with (at_builtin; refine wpList_append_own _ rfl _ _ 24 rfl w.heap.size 38 i38 (.agg #[.int .u8 0, .string ByteArray.empty, .int .i64 0, .int .i64 0, .bool false, .bool false]) 6 48 Try.underlying24 hi38 hz38 hy38 hb38 rfl (by decide) _ _ _ rfl hown ⟨W.heap.size, 0, none⟩ 1 1 [.int .u8 (y : Nat), .string T2, .int .i64 p.n, .int .i64 p.off, .bool c, .bool d] rfl rfl cn one6 q3 q4 hBs ?_)
            intro v' w7 hr7 hg7 _
            have HR7 : Hid (w7.ownsRow w.heap.size 38 6 v' (k + 1) (rowI ((l.map itemOf).take (k + 1)))) := by
              unfold Hid
              rw [HTK.out, rowI_app, rowI_one, HCE.out]
              exact hr7
            have HB7 := hidden (HBF.out.grown hg7 hBs (fun q hq => (hown.lt q hq).1))
            clear hr7 hg7 hown cn hBs
            go_wp2_with fail
            go_roundw
            case rel => exact ⟨k + 1, hlt, by go_num, HR7.out, HB7.out⟩
            case measure => simp [intOf]; omega
          | false =>
            have hown := ((show (W.setCell ⟨M, 1, none⟩ (.string T)).ownsRow w.heap.size 38 6 u3 k (rowI ((l.map itemOf).take k)) from (row_same (HR2.out) (fun q hq => set_other _ M _ _ q (fun e => hrM (by rw [hq, e])))))).alloc (.cells #[.int .u8 (y : Nat), .string T, .int .i64 p.n, .int .i64 p.off, .bool c, .bool d] 38)
            have hbF : Below w.heap.size w ((W.setCell ⟨M, 1, none⟩ (.string T))) := ((HB2.out).setCell (p := ⟨M, _, none⟩) hsz _)
            have hBs : w.heap.size ≤ (((W.setCell ⟨M, 1, none⟩ (.string T))).alloc (.cells #[.int .u8 (y : Nat), .string T, .int .i64 p.n, .int .i64 p.off, .bool c, .bool d] 38)).heap.size := by have := hbF.size; simp only [World.size_alloc]; omega
            have cn := cells_new ((W.setCell ⟨M, 1, none⟩ (.string T))) 38 [.int .u8 (y : Nat), .string T, .int .i64 p.n, .int .i64 p.off, .bool c, .bool d]
            have hszF : ((W.setCell ⟨M, 1, none⟩ (.string T))).heap.size = W.heap.size := by simp
            rw [hszF] at cn
            have HBF := hidden (hbF.alloc hbF.size (.cells #[.int .u8 (y : Nat), .string T, .int .i64 p.n, .int .i64 p.off, .bool c, .bool d] 38))
            have q3 : k + 1 ≤ maxLen := by unfold maxLen; omega
            have q4 : (k + 1) * 48 ≤ 140737488355328 := by omega
            have HCE : Hid (itC (itemOf p) = [.int .u8 (y : Nat), .string T, .int .i64 p.n, .int .i64 p.off, .bool c, .bool d]) := by
              unfold Hid
              rw [HITM.out]
              simp [itC, K1.out, HT.out]
            have one6 : ∀ u ∈ [Value.int .u8 (y : Nat), .string T, .int .i64 p.n, .int .i64 p.off, .bool c, .bool d], u.oneCell' = true := by
              intro u hu
              simp at hu
              rcases hu with rfl | rfl | rfl | rfl | rfl | rfl <;> rfl
            clear hbF hszF
            go_wp2_with (at_builtin; refine wpList_append_own _ rfl _ _ 24 rfl w.heap.size 38 i38 (.agg #[.int .u8 0, .string ByteArray.empty, .int .i64 0, .int .i64 0, .bool false, .bool false]) 6 48 Try.underlying24 hi38 hz38 hy38 hb38 rfl (by decide) _ _ _ rfl hown ⟨W.heap.size, 0, none⟩ 1 1 [.int .u8 (y : Nat), .string T, .int .i64 p.n, .int .i64 p.off, .bool c, .bool d] rfl rfl cn one6 q3 q4 hBs ?_)
            intro v' w7 hr7 hg7 _
            have HR7 : Hid (w7.ownsRow w.heap.size 38 6 v' (k + 1) (rowI ((l.map itemOf).take (k + 1)))) := by
              unfold Hid
              rw [HTK.out, rowI_app, rowI_one, HCE.out]
              exact hr7
            have HB7 := hidden (HBF.out.grown hg7 hBs (fun q hq => (hown.lt q hq).1))
            clear hr7 hg7 hown cn hBs
            go_wp2_with fail
            go_roundw
            case rel => exact ⟨k + 1, hlt, by go_num, HR7.out, HB7.out⟩
            case measure => simp [intOf]; omega
        have z1 : ((y : Int) == 1) = false := by simp; omega
        by_cases k2 : y = 2
        · have z2 : ((y : Int) == 2) = true := by simp; omega
          have K1 := hidden k1
          have K2 := hidden k2
          clear k1 k2
          have hown := (HR2.out).alloc (.cells #[.int .u8 (y : Nat), .string { data := #[] }, .int .i64 p.n, .int .i64 p.off, .bool c, .bool d] 38)
          have hbF : Below w.heap.size w (W) := HB2.out
          have hBs : w.heap.size ≤ ((W).alloc (.cells #[.int .u8 (y : Nat), .string { data := #[] }, .int .i64 p.n, .int .i64 p.off, .bool c, .bool d] 38)).heap.size := by have := hbF.size; simp only [World.size_alloc]; omega
          have cn := cells_new (W) 38 [.int .u8 (y : Nat), .string { data := #[] }, .int .i64 p.n, .int .i64 p.off, .bool c, .bool d]
          have hszF : (W).heap.size = W.heap.size := by simp
          rw [hszF] at cn
          have HBF := hidden (hbF.alloc hbF.size (.cells #[.int .u8 (y : Nat), .string { data := #[] }, .int .i64 p.n, .int .i64 p.off, .bool c, .bool d] 38))
          have q3 : k + 1 ≤ maxLen := by unfold maxLen; omega
          have q4 : (k + 1) * 48 ≤ 140737488355328 := by omega
          have HCE : Hid (itC (itemOf p) = [.int .u8 (y : Nat), .string { data := #[] }, .int .i64 p.n, .int .i64 p.off, .bool c, .bool d]) := by
            unfold Hid
            rw [HITM.out]
            simp [itC, K2.out]; rfl
          have one6 : ∀ u ∈ [Value.int .u8 (y : Nat), .string { data := #[] }, .int .i64 p.n, .int .i64 p.off, .bool c, .bool d], u.oneCell' = true := by
            intro u hu
            simp at hu
            rcases hu with rfl | rfl | rfl | rfl | rfl | rfl <;> rfl
          clear hbF hszF
          go_wp2_with (at_builtin; refine wpList_append_own _ rfl _ _ 24 rfl w.heap.size 38 i38 (.agg #[.int .u8 0, .string ByteArray.empty, .int .i64 0, .int .i64 0, .bool false, .bool false]) 6 48 Try.underlying24 hi38 hz38 hy38 hb38 rfl (by decide) _ _ _ rfl hown ⟨W.heap.size, 0, none⟩ 1 1 [.int .u8 (y : Nat), .string { data := #[] }, .int .i64 p.n, .int .i64 p.off, .bool c, .bool d] rfl rfl cn one6 q3 q4 hBs ?_)
          intro v' w7 hr7 hg7 _
          have HR7 : Hid (w7.ownsRow w.heap.size 38 6 v' (k + 1) (rowI ((l.map itemOf).take (k + 1)))) := by
            unfold Hid
            rw [HTK.out, rowI_app, rowI_one, HCE.out]
            exact hr7
          have HB7 := hidden (HBF.out.grown hg7 hBs (fun q hq => (hown.lt q hq).1))
          clear hr7 hg7 hown cn hBs
          go_wp2_with fail
          go_roundw
          case rel => exact ⟨k + 1, hlt, by go_num, HR7.out, HB7.out⟩
          case measure => simp [intOf]; omega
        have z2 : ((y : Int) == 2) = false := by simp; omega
        have K1 := hidden k1
        have K2 := hidden k2
        clear k1 k2
        have hown := (HR2.out).alloc (.cells #[.int .u8 (y : Nat), .string { data := #[] }, .int .i64 p.n, .int .i64 p.off, .bool c, .bool d] 38)
        have hbF : Below w.heap.size w (W) := HB2.out
        have hBs : w.heap.size ≤ ((W).alloc (.cells #[.int .u8 (y : Nat), .string { data := #[] }, .int .i64 p.n, .int .i64 p.off, .bool c, .bool d] 38)).heap.size := by have := hbF.size; simp only [World.size_alloc]; omega
        have cn := cells_new (W) 38 [.int .u8 (y : Nat), .string { data := #[] }, .int .i64 p.n, .int .i64 p.off, .bool c, .bool d]
        have hszF : (W).heap.size = W.heap.size := by simp
        rw [hszF] at cn
        have HBF := hidden (hbF.alloc hbF.size (.cells #[.int .u8 (y : Nat), .string { data := #[] }, .int .i64 p.n, .int .i64 p.off, .bool c, .bool d] 38))
        have q3 : k + 1 ≤ maxLen := by unfold maxLen; omega
        have q4 : (k + 1) * 48 ≤ 140737488355328 := by omega
        have HCE : Hid (itC (itemOf p) = [.int .u8 (y : Nat), .string { data := #[] }, .int .i64 p.n, .int .i64 p.off, .bool c, .bool d]) := by
          unfold Hid
          rw [HITM.out]
          simp [itC, K1.out, K2.out]; rfl
        have one6 : ∀ u ∈ [Value.int .u8 (y : Nat), .string { data := #[] }, .int .i64 p.n, .int .i64 p.off, .bool c, .bool d], u.oneCell' = true := by
          intro u hu
          simp at hu
          rcases hu with rfl | rfl | rfl | rfl | rfl | rfl <;> rfl
        clear hbF hszF
        go_wp2_with (at_builtin; refine wpList_append_own _ rfl _ _ 24 rfl w.heap.size 38 i38 (.agg #[.int .u8 0, .string ByteArray.empty, .int .i64 0, .int .i64 0, .bool false, .bool false]) 6 48 Try.underlying24 hi38 hz38 hy38 hb38 rfl (by decide) _ _ _ rfl hown ⟨W.heap.size, 0, none⟩ 1 1 [.int .u8 (y : Nat), .string { data := #[] }, .int .i64 p.n, .int .i64 p.off, .bool c, .bool d] rfl rfl cn one6 q3 q4 hBs ?_)
        intro v' w7 hr7 hg7 _
        have HR7 : Hid (w7.ownsRow w.heap.size 38 6 v' (k + 1) (rowI ((l.map itemOf).take (k + 1)))) := by
          unfold Hid
          rw [HTK.out, rowI_app, rowI_one, HCE.out]
          exact hr7
        have HB7 := hidden (HBF.out.grown hg7 hBs (fun q hq => (hown.lt q hq).1))
        clear hr7 hg7 hown cn hBs
        go_wp2_with fail
        go_roundw
        case rel => exact ⟨k + 1, hlt, by go_num, HR7.out, HB7.out⟩
        case measure => simp [intOf]; omega
    · have hkn : k = n := by omega
      have hlz : ¬ ((k : Int) < (n : Int)) := by omega
      have hto : (l.map itemOf).take k = l.map itemOf := List.take_of_length_le (by rw [List.length_map, Hn.out]; omega)
      rw [hto, hkn] at R
      have HR := hidden R
      have HB := hidden hb
      clear R hb hto hkn
      go_wp2_with fail
      go_ret
      exact ⟨_, rfl, HR.out, HB.out⟩
end Go.Proofs.PlatenLayout
