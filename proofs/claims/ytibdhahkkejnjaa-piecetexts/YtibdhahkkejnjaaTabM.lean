/- The document's example of layer 2, as each statement asks it first: it holds. -/
import Derived.Test.YtibdhahkkejnjaaTabH
import Derived.Test.YtibdhahkkejnjaaTabL
import Derived.Laws.IdiomStrings
namespace Go.Proofs.PlatenPiece
open Go Go.RowKit
set_option linter.unusedVariables false

theorem ex1 {q : Value} {ps' : List Pc} (h : Ins [⟨q, [97, 98, 99], 0⟩] 1 [120] 0 ps') : ∃ q1 q2 q3, ps' = [⟨q1, [97], -2⟩, ⟨q3, [120], 1⟩, ⟨q2, [98, 99], 0⟩] := by
  obtain ⟨i, ps1, hc, hh⟩ := h
  rcases hc with ⟨rfl, hi, hl⟩ | ⟨j, p, n, q1, q2, hp, hl, h0, h1, rfl, rfl⟩
  · match i, hi with
    | 0, _ => simp [lenSum] at hl
    | 1, _ => simp [lenSum] at hl
    | i + 2, hi => simp at hi
  · match j, hp with
    | 0, hp =>
      simp at hp
      subst hp
      simp [lenSum] at hl
      subst hl
      rcases hh with ⟨_, q3, rfl⟩ | ⟨_, ha, _⟩
      · exact ⟨q1, q2, q3, by simp⟩
      · omega
    | j + 1, hp => simp at hp
theorem ex2 {q1 q2 q3 : Value} {ps' : List Pc} (h : Ins [⟨q1, [97], -2⟩, ⟨q3, [120], 1⟩, ⟨q2, [98, 99], 0⟩] 2 [121] 1 ps') : ps'.length = 3 := by
  obtain ⟨i, ps1, hc, hh⟩ := h
  rcases hc with ⟨rfl, hi, hl⟩ | ⟨j, p, n, r1, r2, hp, hl, h0, h1, rfl, rfl⟩
  · match i, hi with
    | 0, _ => simp [lenSum] at hl
    | 1, _ => simp [lenSum] at hl
    | 2, _ =>
      rcases hh with ⟨hno, _⟩ | ⟨_, _, p, q, hp, hk, rfl⟩
      · exact absurd ⟨by omega, by omega, ⟨q3, [120], 1⟩, by simp, rfl⟩ hno
      · simp
    | 3, _ => simp [lenSum] at hl
    | i + 4, hi => simp at hi
  · match j, hp with
    | 0, hp => simp at hp; subst hp; simp at h1; omega
    | 1, hp => simp at hp; subst hp; simp at h1; omega
    | 2, hp => simp at hp; subst hp; simp [lenSum] at hl; omega
    | j + 3, hp => simp at hp

theorem conv_back (b cap : Nat) (l : List Nat) (hl : ∀ c ∈ l, c < 256) (w : World) (h : w.heap[b]? = some (.cells (bytesV l).toArray 5 (0, 0))) :
    (convert 22 9 (.slice (some ⟨b, 0, none⟩) l.length cap)).run Try.prog w = .ok (.string ⟨(l.map UInt8.ofNat).toArray⟩) w := by
  have := run_convert_bytes_back (P := Try.prog) w 22 9 5 ⟨b, 0, none⟩ cap (l.map UInt8.ofNat) Try.underlying22 Try.underlying5 Try.underlying9 (fun j hj => by
    have hj' : j < l.length := by simpa using hj
    rw [Addr.add_lit, Nat.zero_add]
    simp only [World.cell?, h]
    have hc := hl _ (List.getElem_mem hj')
    simp [bytesV, List.getElem?_eq_getElem hj']
    omega)
  rw [List.length_map] at this
  exact this

set_option maxHeartbeats 2000000 in
set_option maxRecDepth 100000 in
theorem comes_any (w : World) :
    Calls Try.prog 13 #[] w fun e w' => e = .returned (.bool true) ∧ Below w.heap.size w w' := by
  have hb0 : Below w.heap.size w (w.alloc (.cells #[.int .u8 97, .int .u8 98, .int .u8 99] 5)) := (Below.refl _ _).alloc (Nat.le_refl _) _
  have c1 := new_some (.slice (some ⟨w.heap.size, 0, none⟩) 3 3) [97, 98, 99] (w.alloc (.cells #[.int .u8 97, .int .u8 98, .int .u8 99] 5)) (src_new w [97, 98, 99] 3) (by decide) (by decide)
  have HB0 := hidden hb0
  have hs0 : (w.alloc (.cells #[.int .u8 97, .int .u8 98, .int .u8 99] 5)).heap.size = w.heap.size + 1 := by simp
  rw [hs0] at c1
  clear hb0 hs0
  go_enter Try.func13, Try.ntmps13
  go_wp2_with fail
  refine c1.mono ?_
  rintro e w1 ⟨rfl, ⟨pv, q, hT⟩, hg⟩
  have HB1 := hidden (HB0.out.trans ((below_of_grown hg).mono HB0.out.size))
  have hz1 : w.heap.size + 1 ≤ w1.heap.size := by have := hg.size; simp at this; omega
  have hT1 := hT.grown (grownBy_alloc w1 (.cells #[.int .u8 120] 5))
  have c2 := insert_tab (w.heap.size + 1) (w.heap.size + 1) pv _ _ _ 1 (.slice (some ⟨w1.heap.size, 0, none⟩) 1 1) [120] (w1.alloc (.cells #[.int .u8 120] 5)) hT1 (by simp; omega) (by simp) (by simp [lenSum]) (by simp [lenSum]) (by simp [lenSum]) (by simp) (src_new w1 [120] 1) (out_new hT 1 1) (by simp) (by simp)
  have HT1 := hidden hT1
  clear c1 hT hg hT1
  go_wp2_with fail
  refine c2.mono ?_
  rintro e w2 ⟨rfl, pv2, ps2, hT2, hI, hK, _⟩
  obtain ⟨q1, q2, q3, rfl⟩ := ex1 hI
  have hz2 : w.heap.size + 1 ≤ w2.heap.size := by have := hK.size; simp at this; omega
  have HB2 : Hid (Below w.heap.size w w2) := (HB1.out.alloc (by omega) (.cells #[.int .u8 120] 5)).trans ((hK.bel HT1.out (by simp; omega)).mono (by omega))
  have c3 := pieces_tab _ _ _ _ _ _ _ hT2
  have hT3 := hT2.grown (grownBy_alloc w2 (.cells #[.int .u8 121] 5))
  have c4 := insert_tab (w.heap.size + 1) (w.heap.size + 1) pv2 _ _ _ 2 (.slice (some ⟨w2.heap.size, 0, none⟩) 1 1) [121] (w2.alloc (.cells #[.int .u8 121] 5)) hT3 (by simp; omega) (by simp) (by simp [lenSum]) (by simp [lenSum]) (by simp [lenSum]) (by simp) (src_new w2 [121] 1) (out_new hT2 1 1) (by simp) (by simp)
  have HT3 := hidden hT3
  clear c2 HT1 HB1 HB0 hT2 hT3 hK hI
  go_wp2_with fail
  refine c3.mono ?_
  rintro e w3 ⟨rfl, rfl⟩
  clear c3
  go_wp2_with fail
  refine c4.mono ?_
  rintro e w4 ⟨rfl, pv4, ps4, hT4, hI, hK, _⟩
  have hlen := ex2 hI
  have hfl := hI.flat
  have hsum := hI.sum (by simp [lenSum])
  have hz4 : w.heap.size + 1 ≤ w4.heap.size := by have := hK.size; simp at this; omega
  have HB4 : Hid (Below w.heap.size w w4) := (HB2.out.alloc (by omega) (.cells #[.int .u8 121] 5)).trans ((hK.bel HT3.out (by simp; omega)).mono (by omega))
  have c5 := pieces_tab _ _ _ _ _ _ _ hT4
  have c6 := len_tab _ _ _ _ _ _ _ hT4
  have c7 := bytes_tab _ _ _ _ _ _ _ hT4 (by omega) (by rw [hsum]; simp [lenSum]) (by rw [hsum]; simp [lenSum])
  rw [hlen] at c5
  rw [hsum, hfl] at c7
  simp only [flat, lenSum, List.flatMap_cons, List.flatMap_nil, List.length_cons, List.length_nil, List.append_nil, List.cons_append, List.nil_append, List.take_succ_cons, List.take_zero, List.drop_succ_cons, List.drop_zero] at c7
  clear c4 HT3 HB2 hT4 hK hI hlen hfl hsum
  go_wp2_with fail
  refine c5.mono ?_
  rintro e w5 ⟨rfl, rfl⟩
  clear c5
  go_wp2_with fail
  refine c6.mono ?_
  rintro e w6 ⟨rfl, rfl⟩
  clear c6
  go_wp2_with fail
  refine c7.mono ?_
  rintro e w7 ⟨rfl, h7, hg7⟩
  have HB7 := hidden (HB4.out.trans ((below_of_grown hg7).mono HB4.out.size))
  have hcv : (convert 22 9 (.slice (some ⟨w6.heap.size, 0, none⟩) 5 5)).run Try.prog w7 = .ok (.string ⟨#[97, 120, 121, 98, 99]⟩) w7 := conv_back w6.heap.size 5 [97, 120, 121, 98, 99] (by decide) w7 h7
  have Hcv := hidden hcv
  clear c7 hg7 h7 hcv
  go_wp2_with fail
  rw [Hcv.out]
  simp only [Result.andThen]
  rw [Oper.upon_value]
  go_wp2
  go_ret
  exact ⟨rfl, HB7.out⟩
end Go.Proofs.PlatenPiece
