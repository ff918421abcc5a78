/- The document's example. -/
import Derived.Test.YtaefnlknendapaaPtB
import Derived.Test.YtaefnlknendapaaLyK
namespace Go.Proofs.PlatenLayout
open Go Go.RowKit Go.Shelf
set_option linter.unusedVariables false
set_option maxRecDepth 100000

def exL : List It := [⟨3, [], 0, 0, 0, false, true⟩, ⟨1, [97], 1, 0, 0, false, false⟩, ⟨2, [], 0, 1, 0, false, false⟩, ⟨1, [98], 1, 0, 0, false, false⟩, ⟨4, [], 0, 0, 0, false, false⟩]
theorem ex2 : lay 2 exL s0 = some [97, 10, 98] := by decide +kernel
theorem ex3 : lay 3 exL s0 = some [97, 32, 98] := by decide +kernel
theorem exS : szs exL = [3, 1, 2, 1, 0] := by decide +kernel
theorem exOk : OkL exL := by
  refine ⟨by decide, fun x hx => ?_⟩
  simp [exL] at hx
  rcases hx with rfl | rfl | rfl | rfl | rfl <;> exact ⟨by decide, by decide, by decide, by decide +kernel, by decide, by decide⟩
theorem items_new (w : World) (l : List It) : IsItems (w.alloc (.cells (rowI l).toArray 38)) (.slice (some ⟨w.heap.size, 0, none⟩) l.length l.length) l := by
  refine ⟨_, _, rfl, Nat.le_refl _, fun _ => ⟨_, 0, rfl, fun i x hi c u hu => ?_⟩⟩
  have hc : c < 6 := (List.getElem?_eq_some_iff.1 hu).1
  have h2 := rowI_get l i c x hi hc
  have hh : (w.alloc (.cells (rowI l).toArray 38)).heap[w.heap.size]? = some (.cells (rowI l).toArray 38) := heap_alloc_new w _
  simp only [World.cell?, hh, Nat.zero_add]
  rw [hu] at h2
  simpa using h2
def exC : Array Value := #[Value.int IntKind.u8 3, Value.string { data := #[] }, Value.int IntKind.i64 0, Value.int IntKind.i64 0,
          Value.bool false, Value.bool true, Value.int IntKind.u8 1, Value.string { data := #[97] },
          Value.int IntKind.i64 0, Value.int IntKind.i64 0, Value.bool false, Value.bool false, Value.int IntKind.u8 2,
          Value.string { data := #[] }, Value.int IntKind.i64 1, Value.int IntKind.i64 0, Value.bool false,
          Value.bool false, Value.int IntKind.u8 1, Value.string { data := #[98] }, Value.int IntKind.i64 0,
          Value.int IntKind.i64 0, Value.bool false, Value.bool false, Value.int IntKind.u8 4,
          Value.string { data := #[] }, Value.int IntKind.i64 0, Value.int IntKind.i64 0, Value.bool false,
          Value.bool false]
theorem exC_eq : exC = (rowI exL).toArray := by kernel_rfl
theorem ex_items (w : World) : IsItems (w.alloc (.cells exC 38)) (.slice (some ⟨w.heap.size, 0, none⟩) 5 5) exL := by rw [exC_eq]; exact items_new w exL
theorem str2 : str [97, 10, 98] = ({ data := #[97, 10, 98] } : ByteArray) := by decide +kernel
theorem str3 : str [97, 32, 98] = ({ data := #[97, 32, 98] } : ByteArray) := by decide +kernel
set_option maxHeartbeats 1000000 in
theorem group_any (w : World) : Calls Try.prog 11 #[] w fun e w' => e = .returned (.bool true) ∧ Below w.heap.size w w' := by
  have hb0 := Below.refl w.heap.size w
  have hb1 : Below w.heap.size w (w.alloc (.cells exC 38)) := hb0.alloc (Nat.le_refl _) _
  have hi := ex_items w
  have c2 := lay_any hi exOk 2 (by omega)
  rw [ex2] at c2
  have hsz : w.heap.size ≤ (w.alloc (.cells exC 38)).heap.size := by simp only [World.size_alloc]; omega
  have Hb1 := hidden hb1
  have Hi := hidden hi
  clear hi hb0 hb1
  go_enter Try.func11, Try.ntmps11
  go_wp2_with fail
  refine c2.mono ?_
  rintro e w1 ⟨rfl, hb1⟩
  have hi1 := Hi.out.below hb1
  have Hi1 := hidden hi1
  have c3 := lay_any hi1 exOk 3 (by omega)
  rw [ex3] at c3
  have hB1 := Hb1.out.trans (hb1.mono hsz)
  have HB1 := hidden hB1
  have hsz1 : w.heap.size ≤ w1.heap.size := hB1.size
  clear hi1 hb1 hB1
  go_wp2_with fail
  refine c3.mono ?_
  rintro e w2 ⟨rfl, hb2⟩
  have hi2 := Hi1.out.below hb2
  have c4 := sizes_any hi2 exOk
  have hB2 := HB1.out.trans (hb2.mono hsz1)
  have HB2 := hidden hB2
  have hsz2 : w.heap.size ≤ w2.heap.size := hB2.size
  clear hi2 hb2 hB2
  go_wp2_with fail
  refine c4.mono ?_
  rintro e w3 ⟨u, rfl, hz, hb3⟩
  rw [exS] at hz
  obtain ⟨g, cap, rfl, hcap, h0⟩ := hz.at' (j := 0) (x := 3) rfl
  have HB3 := hidden (HB2.out.trans (hb3.mono hsz2))
  have e5 : ([3, 1, 2, 1, 0] : List Int).length = 5 := rfl
  rw [e5] at hcap ⊢
  clear hb3 hz
  rw [str2, str3]
  go_wp2_with fail
  go_ret
  exact ⟨rfl, HB3.out⟩
end Go.Proofs.PlatenLayout
