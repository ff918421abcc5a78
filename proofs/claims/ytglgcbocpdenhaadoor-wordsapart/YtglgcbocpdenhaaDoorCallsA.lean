/- What glyph.Next and glyph.Prev come to, at any bytes and any place. -/
import Derived.Test.YtglgcbocpdenhaaDoorBytes
namespace Go.Proofs.PlatenGlyph
open Go.RowKit Go.Shelf Go.Lib
set_option linter.unusedVariables false

theorem bytesOf_list (f : Nat → Nat) (n : Nat) : (bytesOf f n).data.toList = (List.range n).map fun j => UInt8.ofNat (f j) := by simp [bytesOf]

theorem bytesOf_drop (f : Nat → Nat) (n k : Nat) : (⟨((bytesOf f n).data.toList.drop k).toArray⟩ : ByteArray) = bytesOf (fun j => f (k + j)) (n - k) := by
  unfold bytesOf
  congr 2
  apply List.ext_getElem?
  intro i
  simp only [List.getElem?_drop, List.getElem?_map]
  by_cases h : k + i < n
  · rw [List.getElem?_range h, List.getElem?_range (show i < n - k by omega)]; rfl
  · rw [List.getElem?_eq_none (by simp; omega), List.getElem?_eq_none (by simp; omega)]; rfl

theorem decodeL_sz (f : Nat → Nat) (n k : Nat) (hf : ∀ j, f j < 256) (hk : k < n) : (Lib.decodeL ((bytesOf f n).data.toList.drop k)).2 = szAt f n k := by
  unfold Lib.decodeL
  rw [bytesOf_drop, decodeAt_sz (fun j => f (k + j)) (n - k) 0 (fun j => hf _) (by omega), szAt_shift f n k 0 (by omega)]
  rfl

theorem getD_bytes (f : Nat → Nat) (n k : Nat) (hf : ∀ j, f j < 256) (hk : k < n) : ((bytesOf f n).data.toList.getD k 0).toNat = f k := by
  rw [bytesOf_list, List.getD_eq_getElem?_getD, List.getElem?_map, List.getElem?_range hk]
  simp
  exact hf k

theorem runeStartB_bytes (f : Nat → Nat) (n k : Nat) (hf : ∀ j, f j < 256) (hk : k < n) : Lib.runeStartB ((bytesOf f n).data.toList.getD k 0) = !decide (128 ≤ f k ∧ f k ≤ 191) := by
  unfold Lib.runeStartB
  rw [getD_bytes f n k hf hk]
  by_cases h : 128 ≤ f k ∧ f k ≤ 191
  · have : f k / 64 = 2 := by omega
    simp [h, this]
  · have : f k / 64 ≠ 2 := by omega
    simp [h, this]

theorem last1 {f : Nat → Nat} {n : Nat} (h0 : n ≠ 0) (c2 : ¬ (2 ≤ n ∧ szAt f n (n - 2) = 2)) (c3 : ¬ (3 ≤ n ∧ szAt f n (n - 3) = 3)) (c4 : ¬ (4 ≤ n ∧ szAt f n (n - 4) = 4)) : lastAt f n = 1 := by
  unfold lastAt; rw [if_neg h0, if_neg c2, if_neg c3, if_neg c4]
theorem last2 {f : Nat → Nat} {n : Nat} (h : 2 ≤ n) (c2 : szAt f n (n - 2) = 2) : lastAt f n = 2 := by
  unfold lastAt; rw [if_neg (show ¬ n = 0 by omega), if_pos ⟨h, c2⟩]
theorem last3 {f : Nat → Nat} {n : Nat} (h : 3 ≤ n) (c2 : ¬ (2 ≤ n ∧ szAt f n (n - 2) = 2)) (c3 : szAt f n (n - 3) = 3) : lastAt f n = 3 := by
  unfold lastAt; rw [if_neg (show ¬ n = 0 by omega), if_neg c2, if_pos ⟨h, c3⟩]
theorem last4 {f : Nat → Nat} {n : Nat} (h : 4 ≤ n) (c2 : ¬ (2 ≤ n ∧ szAt f n (n - 2) = 2)) (c3 : ¬ (3 ≤ n ∧ szAt f n (n - 3) = 3)) (c4 : szAt f n (n - 4) = 4) : lastAt f n = 4 := by
  unfold lastAt; rw [if_neg (show ¬ n = 0 by omega), if_neg c2, if_neg c3, if_pos ⟨h, c4⟩]

theorem scan_at {f : Nat → Nat} {n st k : Nat} (h : st + szAt f n st = n) (hs : szAt f n st = k) : (if st + szAt f n st = n then szAt f n st else 1) = k := by rw [if_pos h, hs]
theorem scan_no {f : Nat → Nat} {n st : Nat} (h : ¬ st + szAt f n st = n ∨ szAt f n st = 1) : (if st + szAt f n st = n then szAt f n st else 1) = 1 := by
  split
  · rcases h with h | h
    · omega
    · exact h
  · rfl

theorem decodeLast_sz (f : Nat → Nat) (n : Nat) (hf : ∀ j, f j < 256) : (Lib.decodeLastL (bytesOf f n).data.toList).2 = lastAt f n := by
  have hlen : (bytesOf f n).data.toList.length = n := by rw [bytesOf_list]; simp
  by_cases h0 : n = 0
  · subst h0; rfl
  have hne : ¬ (bytesOf f n).data.toList = [] := fun h => by rw [h] at hlen; simp at hlen; omega
  have inn : ∀ m j, szAt f n (n - m) = m → 1 ≤ j → j < m → m ≤ n → 128 ≤ f (n - j) ∧ f (n - j) ≤ 191 := fun m j hs h1 h2 h3 => szAt_inner (n := n) (i := n - m) (by omega) (by omega)
  have con : ∀ m, 1 ≤ m → m ≤ n → (128 ≤ f (n - m) ∧ f (n - m) ≤ 191) → szAt f n (n - m) = 1 := fun m h1 h2 h3 => szAt_cont (by omega) (by omega)
  have le : ∀ m, m ≤ n → szAt f n (n - m) ≤ m := fun m h => by have := szAt_le f n (n - m) (by omega); omega
  unfold Lib.decodeLastL
  rw [if_neg hne, hlen]
  by_cases ha : f (n - 1) < 128
  · rw [getD_bytes f n (n - 1) hf (by omega), if_pos ha]
    refine (last1 h0 (fun c => ?_) (fun c => ?_) (fun c => ?_)).symm
    · have := inn 2 1 c.2 (by omega) (by omega) c.1; omega
    · have := inn 3 1 c.2 (by omega) (by omega) c.1; omega
    · have := inn 4 1 c.2 (by omega) (by omega) c.1; omega
  rw [getD_bytes f n (n - 1) hf (by omega), if_neg ha]
  have fin : ∀ st, Lib.lastStart (bytesOf f n).data.toList = st → st < n → (if st + szAt f n st = n then szAt f n st else 1) = lastAt f n →
      (if Lib.lastStart (bytesOf f n).data.toList + (Lib.decodeL ((bytesOf f n).data.toList.drop (Lib.lastStart (bytesOf f n).data.toList))).2 = n then Lib.decodeL ((bytesOf f n).data.toList.drop (Lib.lastStart (bytesOf f n).data.toList)) else (Utf8.runeError, 1)).2 = lastAt f n := by
    intro st e hst h
    rw [e, decodeL_sz f n st hf hst, ← h]
    by_cases c : st + szAt f n st = n
    · rw [if_pos c, if_pos c, decodeL_sz f n st hf hst]
    · rw [if_neg c, if_neg c]
  have l1 : lastAt f 1 = 1 := last1 (by omega) (by omega) (by omega) (by omega)
  by_cases n1 : n = 1
  · refine fin 0 (by unfold Lib.lastStart; simp only [hlen]; rw [if_pos (by omega)]) (by omega) ?_
    subst n1
    have a := szAt_le f 1 0 (by omega)
    have b := szAt_pos (f := f) (n := 1) (i := 0) (by omega)
    rw [l1]
    exact scan_no (Or.inr (by omega))
  have r2 := runeStartB_bytes f n (n - 2) hf (by omega)
  by_cases d2 : 128 ≤ f (n - 2) ∧ f (n - 2) ≤ 191
  · have s2 := con 2 (by omega) (by omega) d2
    by_cases n2 : n = 2
    · refine fin 0 (by unfold Lib.lastStart; simp only [hlen]; rw [if_neg (by omega), r2]; simp [d2]; omega) (by omega) ?_
      subst n2
      rw [last1 (by omega) (by omega) (by omega) (by omega)]
      exact scan_no (Or.inr s2)
    have r3 := runeStartB_bytes f n (n - 3) hf (by omega)
    by_cases d3 : 128 ≤ f (n - 3) ∧ f (n - 3) ≤ 191
    · have s3 := con 3 (by omega) (by omega) d3
      by_cases n3 : n = 3
      · refine fin 0 (by unfold Lib.lastStart; simp only [hlen]; rw [if_neg (by omega), r2, r3]; simp [d2, d3]; (repeat' split) <;> omega) (by omega) ?_
        subst n3
        rw [last1 (by omega) (by omega) (by omega) (by omega)]
        exact scan_no (Or.inr s3)
      have r4 := runeStartB_bytes f n (n - 4) hf (by omega)
      by_cases d4 : 128 ≤ f (n - 4) ∧ f (n - 4) ≤ 191
      · have s4 := con 4 (by omega) (by omega) d4
        have l := last1 (f := f) h0 (by omega) (by omega) (by omega)
        by_cases n4 : n = 4
        · refine fin 0 (by unfold Lib.lastStart; simp only [hlen]; rw [if_neg (by omega), r2, r3, r4]; simp [d2, d3, d4]; (repeat' split) <;> omega) (by omega) ?_
          rw [l]
          subst n4
          exact scan_no (Or.inr s4)
        refine fin (n - 5) (by unfold Lib.lastStart; simp only [hlen]; rw [if_neg (by omega), r2, r3, r4]; simp [d2, d3, d4]; (repeat' split) <;> omega) (by omega) ?_
        rw [l]
        exact scan_no (Or.inl (by have := szAt_le4 f n (n - 5); omega))
      · refine fin (n - 4) (by unfold Lib.lastStart; simp only [hlen]; rw [if_neg (by omega), r2, r3, r4]; simp [d2, d3, d4]; (repeat' split) <;> omega) (by omega) ?_
        by_cases c : szAt f n (n - 4) = 4
        · rw [last4 (by omega) (by omega) (by omega) c]
          exact scan_at (by omega) c
        · rw [last1 h0 (by omega) (by omega) (by omega)]
          exact scan_no (Or.inl (by have := le 4 (by omega); omega))
    · refine fin (n - 3) (by unfold Lib.lastStart; simp only [hlen]; rw [if_neg (by omega), r2, r3]; simp [d2, d3]; (repeat' split) <;> omega) (by omega) ?_
      by_cases c : szAt f n (n - 3) = 3
      · rw [last3 (by omega) (by omega) c]
        exact scan_at (by omega) c
      · rw [last1 h0 (by omega) (by omega) (fun c4 => d3 (inn 4 3 c4.2 (by omega) (by omega) c4.1))]
        exact scan_no (Or.inl (by have := le 3 (by omega); omega))
  · refine fin (n - 2) (by unfold Lib.lastStart; simp only [hlen]; rw [if_neg (by omega), r2]; simp [d2]) (by omega) ?_
    by_cases c : szAt f n (n - 2) = 2
    · rw [last2 (by omega) c]
      exact scan_at (by omega) c
    · rw [last1 h0 (by omega) (fun c3 => d2 (inn 3 2 c3.2 (by omega) (by omega) c3.1)) (fun c4 => d2 (inn 4 2 c4.2 (by omega) (by omega) c4.1))]
      exact scan_no (Or.inl (by have := le 2 (by omega); omega))

/-- utf8.DecodeLastRune. -/
theorem decodeLastRune_any (f : Nat → Nat) (b off n cap : Nat) (w : World) (hf : ∀ j, f j < 256) (hcap : n ≤ cap) (hn : n ≤ 9223372036854775807) (hT : Lib.Utf8Tabs 0 1 w) (hc : Cells w b off n f) :
    Calls Tryd.prog 34 #[.slice (some ⟨b, off, none⟩) n cap] w fun e w' => ∃ r : Int, e = .returned (.tuple #[.int .i32 r, .int .i64 (lastAt f n)]) ∧ Below w.heap.size w w' := by
  have h : Calls Tryd.prog 34 #[.slice (some ⟨b, off, none⟩) (bytesOf f n).size cap] w fun e w' => e = .returned (.tuple #[.int .i32 (Lib.decodeLastL (bytesOf f n).data.toList).1, .int .i64 (Lib.decodeLastL (bytesOf f n).data.toList).2]) ∧ Below w.heap.size w w' :=
    Any7.utf8_DecodeLastRune Tryd.lays33 (bytesOf f n) b off cap w (by rw [bytesOf_size]; exact hcap) (cells_bytesOf hf hc) (by rw [bytesOf_size]; exact hn) hT
  rw [bytesOf_size, decodeLast_sz f n hf] at h
  exact h.mono fun e w' ⟨he, hb⟩ => ⟨_, he, hb⟩

end Go.Proofs.PlatenGlyph
