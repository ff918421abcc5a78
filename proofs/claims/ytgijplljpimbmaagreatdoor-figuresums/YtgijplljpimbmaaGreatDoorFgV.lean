/- What the law of sums comes to at any list of numbers. -/
import Derived.Test.YtgijplljpimbmaaGreatDoorLaid
import Derived.Test.YtgijplljpimbmaaGreatDoorFgU
import Derived.OpenShut
import Derived.ChangeOld
namespace Go.Proofs.YtgijplljpimbmaaGreatDoor.Sums
open Go.ChangeShapes Go.WideShapes Go.ChangeAt Go.ChangeMaps Go.RowKit Go.Proofs.PlatenFigure
set_option linter.unusedVariables false

/-- A slice of n numbers' bits. -/
def IsArg (w : World) (v : Value) (n : Nat) (f : Nat → Nat) : Prop :=
  (∀ j, f j < 18446744073709551616) ∧ n ≤ 9223372036854775807 ∧ ((∃ a cap, v = .slice a 0 cap ∧ n = 0) ∨ ∃ b off cap, v = .slice (some ⟨b, off, none⟩) n cap ∧ n ≤ cap ∧ ∀ j, j < n → w.cell? ⟨b, off + j, none⟩ = some (.int .u64 (f j : Nat)))
theorem isArg_of {w : World} {a : Option Addr} {n cap : Nat} {zs : List Int} (hz : zs.length = cap) (hl : n ≤ cap) (hm : cap ≤ maxLen) {x : Addr} (ha : a = some x)
    (hcell : ∀ i, i < zs.length → w.cell? (x.add i) = some (.int .u64 (zs.getD i 0))) (hwz : ∀ m ∈ zs, (Lit.int .u64 m).wf = true) : ∃ f, IsArg w (.slice a n cap) n f := by
  have hb : ∀ i, 0 ≤ zs.getD i 0 ∧ zs.getD i 0 ≤ 18446744073709551615 := by
    intro i
    by_cases hi : i < zs.length
    · have hmem : zs.getD i 0 ∈ zs := by
        rw [List.getD_eq_getElem?_getD, List.getElem?_eq_getElem hi]
        exact List.getElem_mem hi
      simpa [Lit.wf, IntKind.min, IntKind.max, IntKind.signed, IntKind.bits] using hwz _ hmem
    · rw [List.getD_eq_getElem?_getD, List.getElem?_eq_none (by omega)]
      decide
  refine ⟨fun j => (zs.getD j 0).toNat, fun j => by have := hb j; show (zs.getD j 0).toNat < _; omega, ?_, ?_⟩
  · unfold maxLen at hm; omega
  subst ha
  by_cases h0 : zs.length = 0
  · have hn : n = 0 := by omega
    subst hn
    exact Or.inl ⟨_, _, rfl, rfl⟩
  · obtain ⟨b, off, spot⟩ := x
    have hc := hcell 0 (by omega)
    have hspot : spot = none := by simpa [Addr.add] using World.cell?_spot hc
    subst hspot
    refine Or.inr ⟨b, off, cap, rfl, hl, fun j hj => ?_⟩
    have := hcell j (by omega)
    have h2 := hb j
    rw [show ((((zs.getD j 0).toNat : Nat) : Int)) = zs.getD j 0 from Int.toNat_of_nonneg h2.1]
    by_cases hj0 : j = 0
    · subst hj0; simpa [Addr.add] using this
    · simpa [Addr.add, hj0] using this
theorem isArg_nil (w : World) (a : Option Addr) (cap : Nat) : IsArg w (.slice a 0 cap) 0 (fun _ => 0) := ⟨fun _ => by simp, Nat.zero_le _, Or.inl ⟨_, _, rfl, rfl⟩⟩
set_option maxRecDepth 20000 in
theorem open_bytes {H : Type} {enc : TypeId × Value → H} {W : World} {base : Nat} {v : Value} {d : DataW H} {p : List MemPlace} (hv : Value.okWide Tryz.prog W .any base 35 v)
    (h : DataW.Trod enc Tryz.prog W 0 (fun _ => true) true 35 v d p) : ∃ n f, IsArg W v n f := by
  obtain ⟨a, len, cap, rfl⟩ := okWide_slice Tryz.underlying35 hv
  obtain ⟨fuel, hf⟩ := h
  rcases open_ints Tryz.underlying35 Tryz.underlying28 c28 hf with ⟨hcs, _⟩ | ⟨x, l, c, zs, hcs, _, hl, hm, hz, _, hcell, hwz⟩
  · simp [Value.cells] at hcs
    obtain ⟨rfl, rfl, rfl⟩ := hcs
    exact ⟨0, fun _ => 0, isArg_nil _ _ _⟩
  · simp [Value.cells] at hcs
    obtain ⟨rfl, rfl, rfl⟩ := hcs
    obtain ⟨f, hf⟩ := isArg_of (w := W) (n := len) (by simpa using hz) hl hm rfl hcell hwz
    exact ⟨len, f, hf⟩
theorem cell_lt {w : World} {b o : Nat} {v : Value} (h : w.cell? ⟨b, o, none⟩ = some v) : b < w.heap.size := by
  rcases Nat.lt_or_ge b w.heap.size with h' | h'
  · exact h'
  · unfold World.cell? at h
    simp only at h
    rw [Array.getElem?_eq_none h'] at h
    cases h
theorem info25 : (Tryz.prog.info? 25).map (fun i => (i.zero, i.size, i.bytes)) = some (some (.float .f64 0), 1, 8) := by kernel_rfl
def fv (f : Nat → Nat) (k : Nat) : List Value := (List.range k).map fun j => Value.float .f64 (f j)
theorem fv_len (f : Nat → Nat) (k : Nat) : (fv f k).length = k := by simp [fv]
theorem fv_succ (f : Nat → Nat) (k : Nat) : fv f (k + 1) = fv f k ++ [.float .f64 (f k)] := by simp [fv, List.range_succ]

set_option maxHeartbeats 1000000 in
theorem long (v : Value) (n : Nat) (f : Nat → Nat) (w : World) (hA : IsArg w v n f) (hn : 60 < n) (hL : Lay w) :
    Calls Tryz.prog 8 #[v] w fun e w' => e = .returned (.bool true) ∧ Below w.heap.size w w' := by
  obtain ⟨a, cap, rfl⟩ : ∃ a cap, v = .slice a n cap := by
    rcases hA.2.2 with ⟨a, cap, rfl, rfl⟩ | ⟨b, off, cap, rfl, _, _⟩
    · exact ⟨_, _, rfl⟩
    · exact ⟨_, _, rfl⟩
  have c0 := reads_any w hL
  have HL := hidden hL
  have hz : (60 : Int) < n := by omega
  have hn2 := hA.2.1
  clear hA hL hn
  go_enter Tryz.func8, Tryz.ntmps8
  go_wp2_with fail
  refine c0.mono ?_
  rintro e w1 ⟨rfl, hb⟩
  have c1 := reads_any w1 (HL.out.below hb)
  have HB := hidden hb
  clear hb c0
  go_wp2_with fail
  refine c1.mono ?_
  rintro e w2 ⟨rfl, hb2⟩
  have HB2 := hidden (HB.out.trans (hb2.mono HB.out.size))
  clear hb2 c1
  go_wp2_with fail
  go_ret
  exact ⟨rfl, HB2.out⟩

set_option maxHeartbeats 2000000 in
theorem none_ (a : Option Addr) (cap : Nat) (w : World) (hL : Lay w) :
    Calls Tryz.prog 8 #[.slice a 0 cap] w fun e w' => e = .returned (.bool true) ∧ Below w.heap.size w w' := by
  have c0 := reads_any w hL
  have c1 := fun w => sum_nil w
  have c2 := fun w => rsum_nil w
  have c3 := fun w => rsame_any 0 0 w (by decide) (by decide)
  rw [show rsameB 0 0 = true by decide +kernel] at c3
  have fb := fun w => fbits 0 w
  clear hL
  go_enter Tryz.func8, Tryz.ntmps8
  go_wp2_with fail
  refine c0.mono ?_
  rintro e w1 ⟨rfl, hb⟩
  have HB := hidden hb
  clear hb c0
  go_wp2_with fail
  go_loop [4, 3] (fun i x => i = .int .i64 0 ∧ x = .slice none 0 0) (fun _ _ => 0)
  case atStart => exact ⟨rfl, rfl⟩
  case round =>
  obtain ⟨rfl, rfl⟩ := hrel
  go_wp2_with fail
  refine (c1 _).mono ?_
  rintro e w2 ⟨rfl, rfl⟩
  go_wp2_with fail
  refine (c2 _).mono ?_
  rintro e w2 ⟨rfl, rfl⟩
  go_wp2_with fail
  refine (c3 _).mono ?_
  rintro e w2 ⟨rfl, rfl⟩
  go_wp2_with fail
  go_ret
  exact ⟨rfl, HB.out⟩

set_option maxRecDepth 20000 in
set_option maxHeartbeats 4000000 in
theorem some_ (b off n cap : Nat) (f : Nat → Nat) (w : World) (h1 : 1 ≤ n) (hn : n ≤ 60) (hc : n ≤ cap) (hf : ∀ j, f j < 18446744073709551616) (hA : ∀ j, j < n → w.cell? ⟨b, off + j, none⟩ = some (.int .u64 (f j : Nat))) (hL : Lay w) :
    Calls Tryz.prog 8 #[.slice (some ⟨b, off, none⟩) n cap] w fun e w' => e = .returned (.bool true) ∧ Below w.heap.size w w' := by
  obtain ⟨i0, hi, hz0, hz1, hz2⟩ := parts_of info25
  have c0 := reads_any w hL
  have hbl := cell_lt (hA 0 (by omega))
  have HA := hidden hA
  clear hL hA
  go_enter Tryz.func8, Tryz.ntmps8
  go_wp2_with fail
  refine c0.mono ?_
  rintro e w1 ⟨rfl, hb⟩
  have HB := hidden hb
  clear hb c0
  go_wp2_with fail
  go_loopw [4, 3] (fun i x wr => ∃ k : Nat, k ≤ n ∧ i = .int .i64 (k : Nat) ∧ wr.ownsRow w.heap.size 25 1 x k (fv f k) ∧ Below w.heap.size w wr) (fun i _ _ => n - (intOf i).toNat)
  case atStart => exact ⟨0, by omega, rfl, World.ownsRow_nil _ _ _ _, HB.out⟩
  case round =>
  obtain ⟨k, hk, rfl, hown, hbr⟩ := hrel
  by_cases hlt : k < n
  · have hcell : wr.cell? ⟨b, off + k, none⟩ = some (.int .u64 (f k : Nat)) := (hbr.cell (p := ⟨b, off + k, none⟩) hbl).trans (HA.out k hlt)
    have hfr := fun w => ffrom (f k : Nat) w
    simp only [Int.toNat_natCast] at hfr
    have HF := hidden (fv_succ f k)
    generalize f k = y at *
    have HO := hidden hown
    have HBR := hidden hbr
    clear hown hbr
    go_wp2_with (at_builtin; refine wpList_append_own _ rfl _ _ 36 rfl w.heap.size 25 i0 (.float .f64 0) 1 8 Tryz.underlying36 hi hz0 hz1 hz2 rfl (by decide) _ _ _ rfl (HO.out.alloc _) ⟨wr.heap.size, 0, none⟩ 1 1 [.float .f64 y] rfl rfl ?c1 ?c2 ?c3 ?c4 ?c5 ?_)
    case c1 =>
      intro j u hu
      match j, hu with
      | 0, hu => simp at hu; subst hu; simp [Addr.add]
      | j + 1, hu => simp at hu
    case c2 => intro u hu; simp at hu; subst hu; rfl
    case c3 => unfold maxLen; omega
    case c4 => omega
    case c5 => have := HBR.out.size; simp; omega
    intro v' w' hown' hg' _
    have HB2 : Hid (Below w.heap.size w w') := (HBR.out.alloc HBR.out.size _).grown hg' (by have := HBR.out.size; simp; omega) (fun q hq => (HO.out.lt q hq).1)
    have HO2 := hidden hown'
    clear hown' hg'
    go_wp2_with fail
    go_roundw
    case rel => exact ⟨k + 1, by omega, by go_num, by rw [HF.out]; exact HO2.out, HB2.out⟩
    case measure => simp [intOf]; omega
  · obtain rfl : k = n := by omega
    obtain ⟨g, cap', cur, rfl, hbg, hgg, hnc, hcm, hcs, htake⟩ : ∃ g cap' cur, u3 = .slice (some ⟨g, 0, none⟩) k cap' ∧ w.heap.size ≤ g ∧ wr.heap[g]? = some (.cells cur 25 (0, 0)) ∧ k ≤ cap' ∧ cap' ≤ maxLen ∧ cur.size = cap' * 1 ∧ cur.toList.take (k * 1) = fv f k := by
      rcases hown.2 with ⟨_, h0⟩ | h
      · omega
      · exact h
    have hN : Nums wr g 0 k f := by
      intro j hj
      have := hown.cells (g := g) rfl j (.float .f64 (f j)) (by simp [fv, hj])
      by_cases hj0 : j = 0
      · subst hj0; simpa [Addr.add] using this
      · simpa [Addr.add, hj0] using this
    have hN0 : wr.cell? ⟨g, 0, none⟩ = some (.float .f64 (f 0)) := by simpa using hN 0 (by omega)
    unfold maxLen at hcm
    have c1 := sum_any g k cap' f wr (by omega) hnc (by omega) h1 hf hN
    have HBR := hidden hbr
    have HN := hidden hN
    clear hown hbr hN hi hz0 hz1 hz2 hgg hcs htake hbg
    go_wp2_with fail
    refine c1.mono ?_
    rintro e w2 ⟨x, rfl, hx, m1, hw2⟩
    have hN2 : Nums w2 g 0 k f := by
      rw [hw2]; intro j hj; exact HN.out j hj
    have hN20 : w2.cell? ⟨g, 0, none⟩ = some (.float .f64 (f 0)) := by simpa using hN2 0 (by omega)
    have c2 := rsum_any g k cap' f w2 (by omega) hnc (by omega) h1 hf hN2
    have HX := hidden hx
    have HB2 : Hid (Below w.heap.size w w2) := by rw [hw2]; exact PlatenFigure.below_drewN HBR.out m1
    clear hw2 c1 hx hN2 hN0
    go_wp2_with fail
    refine c2.mono ?_
    rintro e w3 ⟨y, rfl, hy, m2, hw3⟩
    have c3 := rsame_any x y w3 HX.out.lt hy.lt
    rw [sm_same HX.out hy] at c3
    have hc3 : w3.cell? ⟨g, 0, none⟩ = some (.float .f64 (f 0)) := by rw [hw3]; exact hN20
    have HB3 : Hid (Below w.heap.size w w3) := by rw [hw3]; exact PlatenFigure.below_drewN HB2.out m2
    clear hw3 c2 hy hN20
    by_cases hk1 : k = 1
    · subst hk1
      obtain rfl := HX.out.yes (f 0) rfl
      have c4 := rsame_any (f 0) (f 0) w3 (hf 0) (hf 0)
      rw [sm_same HX.out HX.out] at c4
      generalize f 0 = z at *
      go_wp2_with fail
      refine c3.mono ?_
      rintro e w4 ⟨rfl, rfl⟩
      go_wp2_with fail
      refine c4.mono ?_
      rintro e w4 ⟨rfl, rfl⟩
      go_wp2_with fail
      go_ret
      exact ⟨rfl, HB3.out⟩
    · have hk2 : (((k : Nat) : Int) != 1) = true := by simp; omega
      have hk3 : (0 : Int) < (k : Int) := by omega
      go_wp2_with fail
      refine c3.mono ?_
      rintro e w4 ⟨rfl, rfl⟩
      go_wp2_with fail
      go_ret
      exact ⟨rfl, HB3.out⟩
theorem law (v : Value) (n : Nat) (f : Nat → Nat) (w : World) (hA : IsArg w v n f) (hL : Lay w) :
    Calls Tryz.prog 8 #[v] w fun e w' => e = .returned (.bool true) ∧ Below w.heap.size w w' := by
  by_cases hn : 60 < n
  · exact long v n f w hA hn hL
  · rcases hA.2.2 with ⟨a, cap, rfl, rfl⟩ | ⟨b, off, cap, rfl, hc, hcell⟩
    · exact none_ a cap w hL
    · by_cases h0 : n = 0
      · subst h0; exact none_ _ cap w hL
      · exact some_ b off n cap f w (by omega) (by omega) hc hA.1 hcell hL

end Go.Proofs.YtgijplljpimbmaaGreatDoor.Sums
