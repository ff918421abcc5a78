/- Plain lists: what a text is cut into at its line ends. -/
import Derived.Test.YtjdjacnlobjmgaaDoorLineM
import Derived.Lib.SplitLaws
namespace Go.Proofs.PlatenLines
open Go

/-- The bytes of line k. -/
def pieceL (f : Nat → Nat) (n k : Nat) : List UInt8 := (List.range (fin f n k - beg f n k)).map fun i => UInt8.ofNat (f (beg f n k + i))
def pieceB (f : Nat → Nat) (n k : Nat) : ByteArray := ⟨(pieceL f n k).toArray⟩
def textL (f : Nat → Nat) (n : Nat) : List UInt8 := (List.range n).map fun i => UInt8.ofNat (f i)
def textB (f : Nat → Nat) (n : Nat) : ByteArray := ⟨(textL f n).toArray⟩

theorem pieceL_len (f : Nat → Nat) (n k : Nat) : (pieceL f n k).length = fin f n k - beg f n k := by simp [pieceL]
theorem pieceB_size (f : Nat → Nat) (n k : Nat) : (pieceB f n k).size = fin f n k - beg f n k := by
  show (pieceL f n k).toArray.size = _
  rw [List.size_toArray, pieceL_len]
theorem textB_size (f : Nat → Nat) (n : Nat) : (textB f n).size = n := by
  show (textL f n).toArray.size = _
  rw [List.size_toArray]; simp [textL]
theorem textB_data (f : Nat → Nat) (n : Nat) : (textB f n).data.toList = Lib.bytesOf (nums f 0 n) := by
  rw [nums_bytes]
  show (textL f n).toArray.toList = _
  simp [textL]

theorem nums_drop (f : Nat → Nat) (a m d : Nat) : (Lib.bytesOf (nums f a m)).drop d = Lib.bytesOf (nums f (a + d) (m - d)) := by
  rw [nums_bytes, nums_bytes]
  apply List.ext_getElem?
  intro i
  rw [List.getElem?_drop]
  by_cases h : d + i < m
  · rw [List.getElem?_map, List.getElem?_range h, List.getElem?_map, List.getElem?_range (show i < m - d by omega)]
    simp [Nat.add_assoc]
  · rw [List.getElem?_eq_none (by simp; omega), List.getElem?_eq_none (by simp; omega)]
theorem nums_take (f : Nat → Nat) (a m d : Nat) (h : d ≤ m) : (Lib.bytesOf (nums f a m)).take d = (List.range d).map fun i => UInt8.ofNat (f (a + i)) := by
  rw [nums_bytes]
  apply List.ext_getElem?
  intro i
  rw [List.getElem?_take]
  by_cases hi : i < d
  · rw [if_pos hi, List.getElem?_map, List.getElem?_range (show i < m by omega), List.getElem?_map, List.getElem?_range hi]
  · rw [if_neg hi, List.getElem?_eq_none (by simp; omega)]

theorem split_pieces {f : Nat → Nat} {n : Nat} (hf : ∀ j, f j < 256) : ∀ d k, k + d = lc f n → Lib.splitK [UInt8.ofNat 10] 0 d (Lib.bytesOf (nums f (beg f n k) (n - beg f n k))) = (List.range (d + 1)).map fun i => pieceL f n (k + i)
  | 0, k, h => by
    obtain rfl : k = lc f n := by omega
    show [Lib.bytesOf (nums f (beg f n (lc f n)) (n - beg f n (lc f n)))] = [pieceL f n (lc f n + 0)]
    rw [Nat.add_zero, nums_bytes, pieceL, fin_last]
  | d + 1, k, h => by
    have hk : k < lc f n := by omega
    have hle := beg_le_fin (Nat.le_of_lt hk)
    have hfe := (fin_end hk).1
    have hi : Lib.index (Lib.bytesOf (nums f (beg f n k) (n - beg f n k))) [UInt8.ofNat 10] = ((fin f n k - beg f n k : Nat) : Int) := by rw [Lib.index_one]; exact index_line hf hk
    have ih := split_pieces (n := n) hf d (k + 1) (by omega)
    rw [Lib.splitK, hi, if_neg (by simp), Int.toNat_natCast, Nat.add_zero, nums_take _ _ _ _ (by omega), nums_drop]
    have e1 : beg f n k + (fin f n k - beg f n k + [UInt8.ofNat 10].length) = beg f n (k + 1) := by rw [beg_next hk]; simp; omega
    have e2 : n - beg f n k - (fin f n k - beg f n k + [UInt8.ofNat 10].length) = n - beg f n (k + 1) := by rw [beg_next hk]; simp; omega
    rw [e1, e2, ih, List.range_succ_eq_map (n := d + 1), List.map_cons, List.map_map]
    refine congrArg (List.cons _) ?_
    apply List.map_congr_left
    intro i _
    show pieceL f n (k + 1 + i) = pieceL f n (k + (i + 1))
    rw [show k + 1 + i = k + (i + 1) by omega]

theorem splitB_pieces {f : Nat → Nat} {n : Nat} (hf : ∀ j, f j < 256) : Lib.splitB ⟨#[UInt8.ofNat 10]⟩ 0 (lc f n) (textB f n) = (List.range (lc f n + 1)).map fun i => pieceB f n i := by
  have h := Lib.splitB_data ⟨#[UInt8.ofNat 10]⟩ 0 (lc f n) (textB f n)
  rw [textB_data] at h
  have h2 := split_pieces (n := n) hf (lc f n) 0 (by omega)
  rw [beg_zero, Nat.sub_zero] at h2
  have h3 : (Lib.splitB ⟨#[UInt8.ofNat 10]⟩ 0 (lc f n) (textB f n)).map (·.data.toList) = (List.range (lc f n + 1)).map fun i => pieceL f n i := by
    rw [h]
    refine h2.trans ?_
    apply List.map_congr_left
    intro i _
    rw [Nat.zero_add]
  apply List.ext_getElem?
  intro i
  have h4 := congrArg (·[i]?) h3
  simp only [List.getElem?_map] at h4
  rw [List.getElem?_map]
  cases ha : (Lib.splitB ⟨#[UInt8.ofNat 10]⟩ 0 (lc f n) (textB f n))[i]? with
  | none =>
    rw [ha] at h4
    cases hb : (List.range (lc f n + 1))[i]? with
    | none => rfl
    | some b => rw [hb] at h4; cases h4
  | some x =>
    rw [ha] at h4
    cases hb : (List.range (lc f n + 1))[i]? with
    | none => rw [hb] at h4; cases h4
    | some b =>
      rw [hb] at h4
      simp only [Option.map_some, Option.some.injEq] at h4 ⊢
      cases x with
      | mk d =>
        show (⟨d⟩ : ByteArray) = ⟨(pieceL f n b).toArray⟩
        rw [← h4]
theorem countB_text {f : Nat → Nat} {n : Nat} (hf : ∀ j, f j < 256) : Lib.countB (textB f n) ⟨#[UInt8.ofNat 10]⟩ = lc f n := by
  show Lib.count (textB f n).data.toList [UInt8.ofNat 10] = _
  rw [Lib.count_one, textB_data]
  exact count_ends hf n
end Go.Proofs.PlatenLines
