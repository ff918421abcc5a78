/- What glyph.Blank, lines.Indent, lines.Bare, leader.solid, the document's Blank, Indent, Bare come to. -/
import Derived.Test.YtglgcbocpdenhabDoorLdM
import Derived.WalkKit
import Derived.WalkLawsBesides
import Derived.Below
import Derived.Carry
import Derived.Laws.IdiomStrings
import Derived.Deep.QuietTactic
import Derived.BigQuiet
namespace Go.Proofs.PlatenLeader
open Go.RowKit
set_option linter.unusedVariables false

theorem hidden {p : Prop} (h : p) : Hid p := h
/-- n bytes from a place of memory on. -/
def Cells (w : World) (b off n : Nat) (f : Nat → Nat) : Prop := ∀ j, j < n → w.cell? ⟨b, off + j, none⟩ = some (.int .u8 (f j))
def blankB (c : Nat) : Bool := decide (c = 32 ∨ c = 9)

set_option maxHeartbeats 400000 in
theorem blank_any (c : Nat) (w : World) (hc : c < 256) :
    Calls Tryd.prog 20 #[.int .u8 c] w fun e w' => e = .returned (.bool (blankB c)) ∧ w' = w := by
  by_cases h : c = 32
  · subst h
    go_enter Tryd.func20, Tryd.ntmps20
    go_wp2
    go_ret
    exact ⟨rfl, rfl⟩
  · have hb : ((c : Int) == 32) = false := by simp; omega
    have e : blankB c = ((c : Int) == 9) := by
      unfold blankB; rw [Bool.eq_iff_iff]; simp; omega
    rw [e]
    go_enter Tryd.func20, Tryd.ntmps20
    go_wp2
    go_ret
    exact ⟨rfl, rfl⟩

set_option maxHeartbeats 400000 in
theorem rblank_any (c : Nat) (w : World) (hc : c < 256) :
    Calls Tryd.prog 21 #[.int .u8 c] w fun e w' => e = .returned (.bool (blankB c)) ∧ w' = w := by
  by_cases h : c = 32
  · subst h
    go_enter Tryd.func21, Tryd.ntmps21
    go_wp2
    go_ret
    exact ⟨rfl, rfl⟩
  · have hb : ((c : Int) == 32) = false := by simp; omega
    have e : blankB c = ((c : Int) == 9) := by
      unfold blankB; rw [Bool.eq_iff_iff]; simp; omega
    rw [e]
    go_enter Tryd.func21, Tryd.ntmps21
    go_wp2
    go_ret
    exact ⟨rfl, rfl⟩

/-- k blanks, and no more. -/
def IsInd (f : Nat → Nat) (n k : Nat) : Prop := k ≤ n ∧ (∀ j, j < k → blankB (f j) = true) ∧ (k < n → blankB (f k) = false)
theorem isInd_eq {f : Nat → Nat} {n k l : Nat} (hk : IsInd f n k) (hl : IsInd f n l) : k = l := by
  obtain ⟨k1, k2, k3⟩ := hk
  obtain ⟨l1, l2, l3⟩ := hl
  by_cases c : k < l
  · have h1 := l2 k c
    have h2 := k3 (by omega)
    rw [h1] at h2; cases h2
  · by_cases d : l < k
    · have h1 := k2 l d
      have h2 := l3 (by omega)
      rw [h1] at h2; cases h2
    · omega
/-- A string's bytes. -/
def byt (s : ByteArray) (j : Nat) : Nat := (s.data.toList.getD j 0).toNat
theorem byt_lt (s : ByteArray) (j : Nat) : byt s j < 256 := UInt8.toNat_lt _
theorem byt_get (s : ByteArray) (j : Nat) (h : j < s.size) : s[j].toNat = byt s j := by
  unfold byt
  rw [List.getD_eq_getElem?_getD, List.getElem?_eq_getElem (by simpa using h)]
  rfl
theorem bl_blank (c : UInt8) : bl c = blankB c.toNat := by
  unfold bl blankB
  rw [Bool.eq_iff_iff]
  simp [← UInt8.toNat_inj]
theorem isInd_pre (l : List UInt8) : IsInd (fun j => (l.getD j 0).toNat) l.length (pre l).length := by
  induction l with
  | nil => exact ⟨by simp [pre], fun j hj => by simp [pre] at hj, fun h => by simp [pre] at h⟩
  | cons a t ih =>
    unfold pre at ih ⊢
    by_cases h : bl a = true
    · rw [List.takeWhile_cons_of_pos h]
      obtain ⟨h1, h2, h3⟩ := ih
      refine ⟨by simp; omega, fun j hj => ?_, fun hj => ?_⟩
      · cases j with
        | zero => simpa [bl_blank] using h
        | succ j => simpa using h2 j (by simpa using hj)
      · simpa using h3 (by simpa using hj)
    · have h' : bl a = false := by simpa using h
      rw [List.takeWhile_cons_of_neg h]
      refine ⟨by simp, fun j hj => by simp at hj, fun hj => ?_⟩
      simpa [bl_blank] using h'
abbrev L (s : ByteArray) : List UInt8 := s.data.toList
abbrev S (l : List UInt8) : ByteArray := ⟨l.toArray⟩
theorem isInd_L {s : ByteArray} {k : Nat} (h : IsInd (byt s) s.size k) : k = (pre (L s)).length := isInd_eq h (isInd_pre (L s))

set_option maxHeartbeats 1000000 in
theorem indent_ind (s : ByteArray) (w : World) (hs : s.size ≤ 1000000) :
    Calls Tryd.prog 15 #[.string s] w fun e w' => ∃ k : Nat, e = .returned (.int .i64 k) ∧ IsInd (byt s) s.size k ∧ w' = w := by
  go_enter Tryd.func15, Tryd.ntmps15
  go_wp2
  go_loop [6] (fun i => ∃ k : Nat, k ≤ s.size ∧ i = .int .i64 k ∧ ∀ j, j < k → blankB (byt s j) = true) (fun i => s.size - (intOf i).toNat)
  case atStart => exact ⟨0, Nat.zero_le _, rfl, fun j hj => absurd hj (Nat.not_lt_zero _)⟩
  case round =>
    obtain ⟨k, hk, rfl, hall⟩ := hrel
    by_cases hlt : k < s.size
    · have hg := byt_get s k hlt
      have c := blank_any (byt s k) w (byt_lt s k)
      have HG := hidden hg
      have HA := hidden hall
      clear hg hall
      cases hbl : blankB (byt s k) with
      | true =>
        rw [hbl] at c
        have HB := hidden hbl
        clear hbl
        go_wp2_with fail
        rw [HG.out]
        refine c.mono ?_
        rintro e w' ⟨rfl, rfl⟩
        go_wp2
        go_round
        case rel =>
          refine ⟨k + 1, by omega, by go_num, fun j hj => ?_⟩
          by_cases e : j = k
          · rw [e]; exact HB.out
          · exact HA.out j (by omega)
        case measure => simp [intOf]; omega
      | false =>
        rw [hbl] at c
        have HB := hidden hbl
        clear hbl
        go_wp2_with fail
        rw [HG.out]
        refine c.mono ?_
        rintro e w' ⟨rfl, rfl⟩
        go_wp2
        go_ret
        exact ⟨k, rfl, ⟨hk, HA.out, fun _ => HB.out⟩, rfl⟩
    · obtain rfl : k = s.size := by omega
      have HA := hidden hall
      clear hall
      go_wp2
      go_ret
      exact ⟨s.size, rfl, ⟨hk, HA.out, fun h => absurd h (Nat.lt_irrefl _)⟩, rfl⟩
theorem indent_any (s : ByteArray) (w : World) (hs : s.size ≤ 1000000) :
    Calls Tryd.prog 15 #[.string s] w fun e w' => e = .returned (.int .i64 ((pre (L s)).length : Nat)) ∧ w' = w :=
  (indent_ind s w hs).mono fun e w' ⟨k, he, hk, hw⟩ => ⟨by rw [he, isInd_L hk], hw⟩

theorem bare_eq (s : ByteArray) : (((pre (L s)).length : Int) == (s.size : Int)) = bareB (L s) := by
  rw [bare_len, Bool.eq_iff_iff]
  simp
  exact Int.ofNat_inj
set_option maxHeartbeats 400000 in
theorem bare_any (s : ByteArray) (w : World) (hs : s.size ≤ 1000000) :
    Calls Tryd.prog 18 #[.string s] w fun e w' => e = .returned (.bool (bareB (L s))) ∧ w' = w := by
  have c := indent_any s w hs
  rw [← bare_eq]
  go_enter Tryd.func18, Tryd.ntmps18
  go_wp2_with fail
  refine c.mono ?_
  rintro e w' ⟨rfl, rfl⟩
  go_wp2
  go_ret
  exact ⟨rfl, rfl⟩
set_option maxHeartbeats 400000 in
theorem marked_any (s : ByteArray) (w : World) (hs : s.size ≤ 1000000) :
    Calls Tryd.prog 13 #[.string s] w fun e w' => e = .returned (.bool (!bareB (L s))) ∧ w' = w := by
  have c := bare_any s w hs
  generalize bareB (L s) = x at *
  go_enter Tryd.func13, Tryd.ntmps13
  go_wp2_with fail
  refine c.mono ?_
  rintro e w' ⟨rfl, rfl⟩
  go_wp2
  go_ret
  exact ⟨rfl, rfl⟩

set_option maxHeartbeats 1000000 in
theorem rindent_row (f : Nat → Nat) (b off n cap : Nat) (w : World) (hf : ∀ j, f j < 256) (hn : n ≤ 1000000) (hcap : n ≤ cap) (hc : Cells w b off n f) :
    Calls Tryd.prog 17 #[.slice (some ⟨b, off, none⟩) n cap] w fun e w' => ∃ k : Nat, e = .returned (.int .i64 k) ∧ IsInd f n k ∧ w' = w := by
  go_enter Tryd.func17, Tryd.ntmps17
  go_wp2
  go_loop [3] (fun i => ∃ k : Nat, k ≤ n ∧ i = .int .i64 k ∧ ∀ j, j < k → blankB (f j) = true) (fun i => n - (intOf i).toNat)
  case atStart => exact ⟨0, Nat.zero_le _, rfl, fun j hj => absurd hj (Nat.not_lt_zero _)⟩
  case round =>
    obtain ⟨k, hk, rfl, hall⟩ := hrel
    have HA := hidden hall
    clear hall
    by_cases hlt : k < n
    · have c := rblank_any (f k) w (hf k)
      have g := hc k hlt
      have hlz : ((k : Int) < (n : Int)) := by omega
      cases hbl : blankB (f k) with
      | true =>
        rw [hbl] at c
        have HB := hidden hbl
        clear hbl hc
        go_wp2_with fail
        refine c.mono ?_
        rintro e w' ⟨rfl, rfl⟩
        go_wp2
        go_round
        case rel =>
          refine ⟨k + 1, by omega, by go_num, fun j hj => ?_⟩
          by_cases e : j = k
          · rw [e]; exact HB.out
          · exact HA.out j (by omega)
        case measure => simp [intOf]; omega
      | false =>
        rw [hbl] at c
        have HB := hidden hbl
        clear hbl hc
        go_wp2_with fail
        refine c.mono ?_
        rintro e w' ⟨rfl, rfl⟩
        go_wp2
        go_ret
        exact ⟨k, rfl, ⟨hk, HA.out, fun _ => HB.out⟩, rfl⟩
    · obtain rfl : k = n := by omega
      clear hc
      go_wp2
      go_ret
      exact ⟨k, rfl, ⟨hk, HA.out, fun h => absurd h (Nat.lt_irrefl _)⟩, rfl⟩

theorem conv_bytes (s : ByteArray) (w : World) :
    ∃ W cap, (convert 9 30 (.string s)).run Tryd.prog w = .ok (.slice (some ⟨w.heap.size, 0, none⟩) s.size cap) W ∧ s.size ≤ cap ∧ Cells W w.heap.size 0 s.size (byt s) ∧ Below w.heap.size w W := by
  refine ⟨_, _, run_bytes_of_string w 9 30 5 s Tryd.underlying9 Tryd.underlying30 Tryd.underlying5, ?_, ?_, ?_⟩
  · exact grownCap_ge w s.size 0 5
  · intro j hj
    rw [Nat.zero_add]
    have h : ∀ o, (w.drew.alloc o).heap[w.heap.size]? = some o := fun o => by
      show (w.heap.push o)[w.heap.size]? = _
      simp
    unfold World.cell?
    rw [h]
    simp [bytesRow, byt, Array.getElem?_append, hj]
  · exact ((Below.refl _ _).drew).alloc (Nat.le_refl _) _
/-- The document's Indent of a string made into bytes. -/
theorem rindent_any (s : ByteArray) (b cap : Nat) (w : World) (hs : s.size ≤ 1000000) (hcap : s.size ≤ cap) (hc : Cells w b 0 s.size (byt s)) :
    Calls Tryd.prog 17 #[.slice (some ⟨b, 0, none⟩) s.size cap] w fun e w' => e = .returned (.int .i64 ((pre (L s)).length : Nat)) ∧ w' = w :=
  (rindent_row (byt s) b 0 s.size cap w (byt_lt s) hs hcap hc).mono fun e w' ⟨k, he, hk, hw⟩ => ⟨by rw [he, isInd_L hk], hw⟩
set_option maxHeartbeats 400000 in
theorem rbare_any (s : ByteArray) (b cap : Nat) (w : World) (hs : s.size ≤ 1000000) (hcap : s.size ≤ cap) (hc : Cells w b 0 s.size (byt s)) :
    Calls Tryd.prog 19 #[.slice (some ⟨b, 0, none⟩) s.size cap] w fun e w' => e = .returned (.bool (bareB (L s))) ∧ w' = w := by
  have c := rindent_any s b cap w hs hcap hc
  rw [← bare_eq]
  clear hc
  go_enter Tryd.func19, Tryd.ntmps19
  go_wp2_with fail
  refine c.mono ?_
  rintro e w' ⟨rfl, rfl⟩
  go_wp2
  go_ret
  exact ⟨rfl, rfl⟩
set_option maxHeartbeats 400000 in
theorem rmarked_any (s : ByteArray) (w : World) (hs : s.size ≤ 1000000) :
    Calls Tryd.prog 14 #[.string s] w fun e w' => e = .returned (.bool (!bareB (L s))) ∧ Below w.heap.size w w' := by
  obtain ⟨W, cap, hr, hcap, hcl, hbl⟩ := conv_bytes s w
  have c := rbare_any s w.heap.size cap W hs hcap hcl
  have Hr := hidden hr
  have Hb := hidden hbl
  clear hr hcl hbl
  generalize bareB (L s) = x at *
  go_enter Tryd.func14, Tryd.ntmps14
  go_wp2_with fail
  rw [Hr.out]
  simp only [Result.andThen]
  rw [Oper.upon_value]
  go_wp2_with fail
  refine c.mono ?_
  rintro e w' ⟨rfl, rfl⟩
  go_wp2
  go_ret
  exact ⟨rfl, Hb.out⟩
end Go.Proofs.PlatenLeader
