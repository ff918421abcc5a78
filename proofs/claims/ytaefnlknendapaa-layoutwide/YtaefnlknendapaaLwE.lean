/- As many bytes as may be, and one more. -/
import Derived.Test.YtaefnlknendapaaLwD
import Derived.Test.YtaefnlknendapaaLyW
namespace Go.Proofs.PlatenLayout
open Go Go.RowKit Go.Shelf
set_option linter.unusedVariables false
set_option maxRecDepth 100000

def zt (m : Nat) : List Nat := List.replicate m 0
theorem zt_len (m : Nat) : (zt m).length = m := List.length_replicate
theorem zt_lt (m : Nat) : ∀ c ∈ zt m, c < 256 := fun c hc => by rw [List.eq_of_mem_replicate hc]; decide
def zc (m : Nat) : Nat := PlatenGlyph.cnt (fun j => (zt m).getD j 0) (zt m).length
theorem zc_le (m : Nat) : zc m ≤ m := by have := PlatenGlyph.cnt_le (fun j => (zt m).getD j 0) (zt m).length; rw [zt_len] at this; unfold zc; rw [zt_len]; exact this
def zi (m : Nat) : It := ⟨1, zt m, zc m, 0, 0, false, false⟩
def xI : It := ⟨1, [120], 1, 0, 0, false, false⟩
theorem ok_z {m : Nat} (h : m ≤ 65536) : OkIt (zi m) := ⟨by show 1 < 256; decide, zt_lt m, by show (zt m).length ≤ 70000; rw [zt_len]; omega, rfl, ok_en.n, ok_en.off⟩
theorem ok_x : OkIt xI := ⟨by decide, by decide, by decide, by decide +kernel, by decide, by decide⟩
/-- What stands ahead of the last texts, and what comes of it. -/
def MB (L : List It) (k n : Nat) : Prop :=
  OkL (L ++ [zi n] ++ [xI]) ∧ ∃ p : List Nat, p.length = k ∧ lay 131072 L s0 = some p ∧ lay 131072 (L ++ [zi n]) s0 = some (p ++ zt n) ∧ lay 131072 (L ++ [zi n] ++ [xI]) s0 = none
theorem mb_of {L : List It} {k n : Nat} {p : List Nat} (hk : k + n = 65536) (hp : p.length = k) (hL : ∀ x ∈ L, OkIt x) (hl : L.length ≤ 10)
    (h : ∀ ts : List (List Nat × Nat), (ts.map (·.2)).sum ≤ n + 1 → lay 131072 (L ++ T ts) s0 = if (p ++ cat ts).length ≤ most then some (p ++ cat ts) else none) : MB L k n := by
  have h0 := h [] (by simp)
  have h1 := h [(zt n, zc n)] (by have := zc_le n; simp; omega)
  have h2 := h [(zt n, zc n), ([120], 1)] (by have := zc_le n; simp; omega)
  have c1 : cat [(zt n, zc n)] = zt n := by simp [cat]
  have c2 : cat [(zt n, zc n), ([120], 1)] = zt n ++ [120] := by simp [cat]
  have t0 : L ++ T [] = L := List.append_nil L
  have t2 : L ++ [zi n] ++ [xI] = L ++ T [(zt n, zc n), ([120], 1)] := by rw [List.append_assoc]; rfl
  refine ⟨⟨by simp; omega, fun x hx => ?_⟩, p, hp, ?_, ?_, ?_⟩
  · rcases List.mem_append.1 hx with hx | hx
    · rcases List.mem_append.1 hx with hx | hx
      · exact hL x hx
      · simp at hx; rw [hx]; exact ok_z (by omega)
    · simp at hx; rw [hx]; exact ok_x
  · rw [t0, show cat [] = ([] : List Nat) from rfl, List.append_nil, if_pos (by unfold most; omega)] at h0
    exact h0
  · rw [c1, if_pos (by rw [List.length_append, zt_len]; unfold most; omega)] at h1
    exact h1
  · rw [c2, if_neg (by rw [List.length_append, List.length_append, zt_len]; unfold most; simp; omega)] at h2
    rw [t2]
    exact h2
theorem mb_text {k n : Nat} (hk : k + n = 65536) : MB [zi k] k n := by
  refine mb_of (p := zt k) hk (zt_len k) (fun x hx => ?_) (by simp) (fun ts hts => ?_)
  · simp at hx; rw [hx]; exact ok_z (by omega)
  · have h := lay_T 131072 ((zt k, zc k) :: ts) s0 (Nat.zero_le _)
    have e : s0.p ++ cat ((zt k, zc k) :: ts) = zt k ++ cat ts := by simp [cat, s0]
    rw [e] at h
    exact h
theorem mb_blanks {k n : Nat} (hk : k + n = 65536) : MB [bgIt 0 false, brIt (k : Nat), enI] k n := by
  refine mb_of (p := sp k) hk List.length_replicate (fun x hx => ?_) (by simp) (fun ts hts => ?_)
  · simp at hx
    rcases hx with rfl | rfl | rfl
    · exact ⟨by decide, by decide, by decide, by decide +kernel, by decide, by decide⟩
    · exact ⟨by show 2 < 256; decide, ok_en.tx, ok_en.len, ok_en.ch, by show (-1048576 : Int) ≤ (k : Int) ∧ (k : Int) ≤ 1048576; omega, ok_en.off⟩
    · exact ⟨by decide, by decide, by decide, by decide +kernel, by decide, by decide⟩
  · exact much_blanks 131072 k ts (by unfold most; omega) (by omega)
theorem mb_far {k n j : Nat} (hk : k + n = 65536) (hj : j + 1 = k) : MB [bgIt (j : Nat) true, ⟨1, [], 0, 0, 0, false, false⟩, brIt 1048576, enI] k n := by
  refine mb_of (p := [10] ++ sp j) hk (by rw [List.length_append, show (sp j).length = j from List.length_replicate]; simp; omega) (fun x hx => ?_) (by simp) (fun ts hts => ?_)
  · simp at hx
    rcases hx with rfl | rfl | rfl | rfl
    · exact ⟨by show 3 < 256; decide, ok_en.tx, ok_en.len, ok_en.ch, ok_en.n, by show (-1048576 : Int) ≤ (j : Int) ∧ (j : Int) ≤ 1048576; omega⟩
    · exact ⟨by decide, by decide, by decide, by decide +kernel, by decide, by decide⟩
    · exact ⟨by decide, by decide, by decide, by decide +kernel, by decide, by decide⟩
    · exact ⟨by decide, by decide, by decide, by decide +kernel, by decide, by decide⟩
  · exact much_far 131072 j 1048576 ts (by unfold most; omega) (by decide)
theorem okL_pre {a b : List It} (h : OkL (a ++ b)) : OkL a := ⟨by have := h.1; rw [List.length_append] at this; omega, fun x hx => h.2 x (List.mem_append.2 (Or.inl hx))⟩
theorem made_bytes (k : Nat) : (madeCells #[Value.int .u8 0] k).toList = bc (zt k) := by
  rw [toList_madeCells_one]
  simp [bc, zt]
theorem conv_made {B : Nat} {w : World} {v : Value} {k : Nat} (h : w.ownsRow B 5 1 v k (madeCells #[Value.int .u8 0] k).toList) : (convert 33 9 v).run Try.prog w = .ok (.string (str (zt k))) w := by
  rw [made_bytes] at h
  exact conv_row (by rw [zt_len]; exact h) (zt_lt k)
end Go.Proofs.PlatenLayout
