/- What inside of the document's machine comes to in a word; what feed comes to. -/
import Derived.Test.YtapghnmeiahgoaaJsP
namespace Go.Proofs.PlatenJson
open Go Go.RowKit
set_option linter.unusedVariables false
set_option maxRecDepth 100000
section
variable {B K : Nat} {w0 w : World}
theorem strOf_size (l : List Nat) : (strOf l).size = l.length := by simp [strOf, ByteArray.size]
theorem strOf_head (b : Nat) (r : List Nat) (hb : b < 256) (h : 0 < (strOf (b :: r)).size) : ((strOf (b :: r))[0]'h).toNat = b := by
  show (UInt8.ofNat b).toNat = b
  simp
  exact hb
theorem strOf_tail (b : Nat) (r : List Nat) : (strOf (b :: r)).extract 1 (strOf (b :: r)).size = strOf r := by
  apply ByteArray.ext
  rw [ByteArray.data_extract, strOf_size]
  simp [strOf]
  exact List.take_of_length_le (by simp)
theorem str_facts (s : ByteArray) (b : Nat) (r : List Nat) (hs : s = strOf (b :: r)) (hb : b < 256) : ∃ hp : 0 < s.size, (s[0]'hp).toNat = b ∧ s.extract 1 s.size = strOf r := by
  subst hs
  have hp : 0 < (strOf (b :: r)).size := by rw [strOf_size]; simp
  exact ⟨hp, strOf_head b r hb hp, strOf_tail b r⟩
set_option maxHeartbeats 4000000 in
theorem inside17' (s : ByteArray) {sv lv : Value} {S : List Nat} {fr : Nat} {nm : Bool} {b : Nat} {r : List Nat} {cnt : Nat} {T : List Tk} (Hsl : Hid (s = strOf (b :: r))) (h : MS B K w0 w sv lv 17 S fr nm s cnt T) (c i : Nat) (hc : c < 256) (hi : i ≤ 100000) (hf : fr ≤ i) (hT : T.length ≤ 1000000) (hb : b < 256) :
    Calls Try.prog 28 #[.pointer (some ⟨K, 0, none⟩), .int .u8 (c : Nat), .int .i64 (i : Nat)] w (Does B K w0 (inside ⟨17, S, fr, nm, b :: r, cnt, T⟩ c i)) := by
  have hi1 : ((i + 1 : Nat) : Int) = (i : Int) + 1 := by omega
  have c0 := h.c0
  have c4 := h.c4
  have f4 := h.free 4
  obtain ⟨hp, hg, ht⟩ := str_facts s b r Hsl.out hb
  have Hg := hidden hg
  have Ht := hidden ht
  have He : Hid ((strOf r).toList.isEmpty = decide (r = [])) := by
    unfold Hid
    rw [ByteArray.toList_eq]
    cases r <;> simp [strOf]
  have Hw := hidden (h.word (s.extract 1 s.size))
  have H := hidden h
  clear h hg ht
  by_cases hcb : c = b
  · have zc : ((c : Int) != ((s[0]'hp).toNat : Int)) = false := by rw [Hg.out]; simp [hcb]
    by_cases hr : r = []
    · have ze : (s.extract 1 s.size).toList.isEmpty = true := by rw [Ht.out, He.out]; simp [hr]
      have e1 : Hid (inside ⟨17, S, fr, nm, b :: r, cnt, T⟩ c i = (0, atom ⟨17, S, fr, nm, r, cnt, T⟩ (i + 1))) := by unfold Hid; simp [inside, hcb, hr]
      rw [Ht.out] at Hw
      have ca := atom_any (M := ⟨17, S, fr, nm, r, cnt, T⟩) ⟨_, _, Hw.out⟩ (i + 1) (by simp only; omega) (by omega) hT
      rw [hi1, ← Ht.out] at ca
      clear hcb hr
      go_enter Try.func28, Try.ntmps28
      go_wp2_with fail
      refine ca.mono ?_
      rintro e w2 ⟨rfl, h2⟩
      have H2 := hidden h2
      clear ca h2
      go_wp2_with fail
      go_ret
      rw [e1.out]
      exact ⟨rfl, H2.out⟩
    · have ze : (s.extract 1 s.size).toList.isEmpty = false := by rw [Ht.out, He.out]; simp [hr]
      have e1 : Hid (inside ⟨17, S, fr, nm, b :: r, cnt, T⟩ c i = (0, ⟨17, S, fr, nm, r, cnt, T⟩)) := by unfold Hid; simp [inside, hcb, hr]
      clear hcb hr
      go_enter Try.func28, Try.ntmps28
      go_wp2_with fail
      go_ret
      rw [e1.out]
      refine ⟨rfl, sv, lv, ?_⟩
      have := Hw.out
      rw [Ht.out] at this ⊢
      exact this
  · have zc : ((c : Int) != ((s[0]'hp).toNat : Int)) = true := by rw [Hg.out, bne_iff_ne]; omega
    have e1 : Hid (inside ⟨17, S, fr, nm, b :: r, cnt, T⟩ c i = (5, ⟨17, S, fr, nm, b :: r, cnt, T⟩)) := by unfold Hid; simp [inside, hcb]
    clear hcb
    go_enter Try.func28, Try.ntmps28
    go_wp2_with fail
    go_ret
    rw [e1.out]
    refine ⟨rfl, sv, lv, ?_⟩
    have := H.out
    rw [Hsl.out] at this
    exact this
theorem inside17 {sv lv : Value} {S : List Nat} {fr : Nat} {nm : Bool} {b : Nat} {r : List Nat} {cnt : Nat} {T : List Tk} (h : MS B K w0 w sv lv 17 S fr nm (strOf (b :: r)) cnt T) (c i : Nat) (hc : c < 256) (hi : i ≤ 100000) (hf : fr ≤ i) (hT : T.length ≤ 1000000) (hb : b < 256) :
    Calls Try.prog 28 #[.pointer (some ⟨K, 0, none⟩), .int .u8 (c : Nat), .int .i64 (i : Nat)] w (Does B K w0 (inside ⟨17, S, fr, nm, b :: r, cnt, T⟩ c i)) :=
  inside17' _ rfl h c i hc hi hf hT hb
end
end Go.Proofs.PlatenJson
