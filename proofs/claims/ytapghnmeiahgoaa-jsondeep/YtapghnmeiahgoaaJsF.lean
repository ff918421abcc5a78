/- What word and number of the reader come to. -/
import Derived.Test.YtapghnmeiahgoaaJsE
namespace Go.Proofs.PlatenJson
open Go Go.RowKit
set_option linter.unusedVariables false
set_option maxRecDepth 100000
variable {B R n : Nat} {w0 : World} {v : Value} {f : Nat → Nat} {w : World} {i d : Nat} {T : List Tk}

def WdP (f : Nat → Nat) (n : Nat) (o : Res) (S : List Nat) (T : List Tk) (i : Nat) (L : List Nat) (k : Nat) : Prop :=
  if k = 0 then (i < n ∧ f i = L.getD 0 0) ∧ CurW f n o (L.drop 1) S T i (i + 1)
  else if k < L.length then CurW f n o (L.drop k) S T i (i + k)
  else Cv f n o 5 S (T ++ [(5, i, k)]) false (i + k)
theorem WdP.yes {o : Res} {S : List Nat} {L : List Nat} {k : Nat} (h : WdP f n o S T i L k) (h2 : 2 ≤ L.length) (hk : k < L.length) (hn : i + k < n) (hc : f (i + k) = L.getD k 0) : WdP f n o S T i L (k + 1) := by
  unfold WdP at h ⊢
  rw [if_neg (by omega)]
  by_cases h0 : k = 0
  · subst h0
    rw [if_pos rfl] at h
    rw [if_pos (by omega)]
    exact h.2
  · rw [if_neg h0, if_pos hk] at h
    have e : L.drop k = L.getD k 0 :: L.drop (k + 1) := by
      rw [List.drop_eq_getElem_cons hk, List.getD_eq_getElem?_getD, List.getElem?_eq_getElem hk]; rfl
    rw [e] at h
    by_cases h1 : k + 1 < L.length
    · rw [if_pos h1]
      have e2 : L.drop (k + 1) = L.getD (k + 1) 0 :: L.drop (k + 1 + 1) := by
        rw [List.drop_eq_getElem_cons h1, List.getD_eq_getElem?_getD, List.getElem?_eq_getElem h1]; rfl
      rw [e2] at h
      have := w_one h hn hc
      rw [← e2] at this
      exact this
    · rw [if_neg h1]
      rw [List.drop_of_length_le (show L.length ≤ k + 1 by omega)] at h
      have := w_last h hn hc
      rwa [show i + k + 1 - i = k + 1 by omega] at this
theorem WdP.no {o : Res} {S : List Nat} {L : List Nat} {k : Nat} (h : WdP f n o S T i L k) (hk : k < L.length) (hle : i + k ≤ n) (hc : i + k < n → f (i + k) ≠ L.getD k 0) : o = ([], i + k, 5) := by
  unfold WdP at h
  by_cases h0 : k = 0
  · subst h0
    rw [if_pos rfl] at h
    exact absurd h.1.2 (hc h.1.1)
  · rw [if_neg h0, if_pos hk] at h
    by_cases hn : i + k < n
    · have e : L.drop k = L.getD k 0 :: L.drop (k + 1) := by
        rw [List.drop_eq_getElem_cons hk, List.getD_eq_getElem?_getD, List.getElem?_eq_getElem hk]; rfl
      rw [e] at h
      exact w_bad h hn (hc hn)
    · have : i + k = n := by omega
      rw [this] at h ⊢
      exact w_end h
def LN (s : ByteArray) : List Nat := s.data.toList.map UInt8.toNat
theorem LN_len (s : ByteArray) : (LN s).length = s.size := by simp only [LN, List.length_map]; rfl
theorem ext_one (s : ByteArray) (k : Nat) (h : k < s.size) : s.extract k (k + 1) = ⟨#[s[k]]⟩ := by
  apply ByteArray.ext
  rw [ByteArray.data_extract]
  apply Array.ext
  · simp; have : k < s.data.size := h; omega
  · intro j h1 h2
    simp at h2
    subst h2
    simp
    rfl
theorem LN_get (s : ByteArray) (k : Nat) (h : k < s.size) : (LN s).getD k 0 = (s[k]).toNat := by
  have h' : k < s.data.toList.length := h
  simp only [LN, List.getD_eq_getElem?_getD, List.getElem?_map, List.getElem?_eq_getElem h']
  rfl

set_option maxHeartbeats 2000000 in
theorem word_any {o : Res} {S : List Nat} (s : ByteArray) (h2 : 2 ≤ s.size) (h9 : s.size ≤ 9) (h : Rd B R n w0 v f w i d T) (hw : WdP f n o S T i (LN s) 0) :
    Calls Try.prog 25 #[.pointer (some ⟨R, 0, none⟩), .string s] w (Done B R n w0 v f o d i 5 S) := by
  have Hl := hidden h.len
  have Hn := hidden h.hn
  have HW := hidden hw
  have HR := hidden h
  have HL := hidden (LN_len s)
  have hsl : ∀ (k : Nat) (u : World), k < s.size → (Instr.slice 9 (.string s) (some (.int .i64 (k : Nat))) (some (.int .i64 ((k : Int) + 1))) none).run Try.prog u = .ok (.string (s.extract k (k + 1))) u := fun k u hk => by
    rw [run_slice_string u 9 s .i64 .i64 (k : Nat) ((k : Int) + 1) Try.underlying9 (by omega) (by omega) (by omega)]
    rw [show ((k : Nat) : Int).toNat = k from rfl, show ((k : Int) + 1).toNat = k + 1 by omega]
  have Hsl := hidden hsl
  clear hsl
  obtain ⟨z, hz⟩ : ∃ z, s.size = z := ⟨_, rfl⟩
  have HZ := hidden hz
  rw [hz] at h2 h9
  obtain ⟨tv, h⟩ := h
  have c1 := h.c1
  clear h hw hz
  go_enter Try.func25, Try.ntmps25
  go_wp2_with fail
  go_loopw [5, 12] (fun _ x wr => ∃ k : Nat, k ≤ z ∧ x = .int .i64 (k : Nat) ∧ i + k ≤ n ∧ Rd B R n w0 v f wr (i + k) d T ∧ WdP f n o S T i (LN s) k) (fun _ x _ => z - (intOf x).toNat)
  case atStart => exact ⟨0, by omega, rfl, HR.out.hi, HR.out, HW.out⟩
  case round =>
    obtain ⟨k, hk, rfl, hle, hr, hw⟩ := hrel
    have HWk := hidden hw
    have HRk := hidden hr
    clear hr hw HR HW
    by_cases hlt : k < z
    · have hlz : (k : Int) < (s.size : Int) := by rw [HZ.out]; omega
      have hks : k < s.size := by rw [HZ.out]; exact hlt
      have He := hidden (ext_one s k hks)
      have Hg := hidden (LN_get s k hks)
      have hkb : k ≤ 9 := by omega
      cases hs : see f n (i + k) ⟨#[s[k]]⟩ with
      | true =>
        have cn := need_yes HRk.out _ hs
        rw [see_1 HRk.out] at hs
        simp at hs
        have HW2 := hidden (HWk.out.yes (by rw [HL.out, HZ.out]; exact h2) (by rw [HL.out]; exact hks) hs.1 (by rw [Hg.out]; exact hs.2))
        have Hn1 := hidden hs.1
        rw [← He.out] at cn
        have hsl := fun u => Hsl.out k u hks
        clear hs
        go_wp2_with fail
        refine cn.mono ?_
        rintro e w3 ⟨rfl, h3⟩
        have H3 := hidden h3
        clear cn h3 hsl
        go_wp2_with fail
        go_roundw
        case rel => exact ⟨k + 1, by omega, by go_num, by have := Hn1.out; omega, H3.out, HW2.out⟩
        case measure => simp [intOf]; omega
      | false =>
        have cn := need_no HRk.out _ hs
        rw [see_1 HRk.out] at hs
        have HO : Hid (o = ([], i + k, 5)) := HWk.out.no (by rw [HL.out]; exact hks) hle (fun q => by rw [Hg.out]; simpa [q] using hs)
        rw [← He.out] at cn
        have hsl := fun u => Hsl.out k u hks
        clear hs
        go_wp2_with fail
        refine cn.mono ?_
        rintro e w3 ⟨rfl, h3⟩
        have H3 := hidden h3
        clear cn h3 hsl
        go_wp2_with fail
        exact ⟨rfl, Or.inr ⟨5, i + k, rfl, H3.out.x, HO.out⟩⟩
    · obtain rfl : k = z := by omega
      have hlz : ¬ ((k : Int) < (s.size : Int)) := by rw [HZ.out]; omega
      have HV : Hid (Cv f n o 5 S (T ++ [(5, i, k)]) false (i + k)) := by
        have := HWk.out
        unfold WdP at this
        rwa [if_neg (by omega), if_neg (by rw [HL.out, HZ.out]; omega)] at this
      have ct := token_any HRk.out 5 i (by decide) (by omega) (by have := Hl.out; omega)
      rw [show i + k - i = k by omega] at ct
      clear HRk HWk
      go_wp2_with fail
      refine ct.mono ?_
      rintro e w4 ⟨rfl, j4, hk4, h4⟩
      have HK4 := hidden hk4
      have H4 := hidden h4
      clear ct hk4 h4
      go_wp2_with fail
      go_end0
      refine Or.inl ⟨rfl, j4, _, ?_, HK4.out.2.2.2, H4.out, b_skip (by decide) HV.out HK4.out⟩
      have := HK4.out.1; omega
end Go.Proofs.PlatenJson
