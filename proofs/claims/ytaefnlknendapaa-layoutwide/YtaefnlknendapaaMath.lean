/- Plain arithmetic on signs of UTF-8 (how many bytes a sign has, where signs begin). No program is spoken of here. -/
import Derived.Lib.DecodeN
namespace Go.Proofs.PlatenGlyph
set_option linter.unusedVariables false

/-- How many bytes a lead byte announces. -/
def lead (b : Nat) : Nat := if 194 ≤ b ∧ b ≤ 223 then 2 else if 224 ≤ b ∧ b ≤ 239 then 3 else if 240 ≤ b ∧ b ≤ 244 then 4 else 1
def low (b : Nat) : Nat := if b = 224 then 160 else if b = 240 then 144 else 128
def high (b : Nat) : Nat := if b = 237 then 159 else if b = 244 then 143 else 191

/-- The bytes of the sign at the head of n bytes (n at least 1). -/
def sz (n b0 b1 b2 b3 : Nat) : Nat :=
  if lead b0 = 1 ∨ n < lead b0 ∨ b1 < low b0 ∨ high b0 < b1 then 1
  else if 3 ≤ lead b0 ∧ (b2 < 128 ∨ 191 < b2) then 1
  else if 4 ≤ lead b0 ∧ (b3 < 128 ∨ 191 < b3) then 1
  else lead b0

theorem lead_cases (b : Nat) : lead b = 1 ∨ lead b = 2 ∨ lead b = 3 ∨ lead b = 4 := by
  unfold lead; repeat' split
  all_goals omega

theorem lead_ge {b : Nat} (h : lead b ≠ 1) : 194 ≤ b ∧ b ≤ 244 := by
  unfold lead at h; repeat' split at h
  all_goals omega

theorem low_ge (b : Nat) : 128 ≤ low b := by unfold low; repeat' split
                                             all_goals omega
theorem high_le (b : Nat) : high b ≤ 191 := by unfold high; repeat' split
                                               all_goals omega

theorem sz_pos (n b0 b1 b2 b3 : Nat) : 1 ≤ sz n b0 b1 b2 b3 ∧ sz n b0 b1 b2 b3 ≤ 4 := by
  have h := lead_cases b0
  unfold sz; repeat' split
  all_goals omega

theorem sz_le (n b0 b1 b2 b3 : Nat) (hn : 1 ≤ n) : sz n b0 b1 b2 b3 ≤ n := by
  unfold sz; repeat' split
  all_goals omega

/-- A sign of several bytes: what it is made of. -/
theorem sz_many {n b0 b1 b2 b3 : Nat} (h : sz n b0 b1 b2 b3 ≠ 1) :
    sz n b0 b1 b2 b3 = lead b0 ∧ lead b0 ≠ 1 ∧ lead b0 ≤ n ∧ (low b0 ≤ b1 ∧ b1 ≤ high b0) ∧ (3 ≤ lead b0 → 128 ≤ b2 ∧ b2 ≤ 191) ∧ (4 ≤ lead b0 → 128 ≤ b3 ∧ b3 ≤ 191) := by
  unfold sz at h ⊢
  split at h
  · omega
  rename_i h1
  split at h
  · omega
  rename_i h2
  split at h
  · omega
  rename_i h3
  rw [if_neg h1, if_neg h2, if_neg h3]
  refine ⟨rfl, h, by omega, by omega, fun _ => by omega, fun _ => by omega⟩

theorem sz_of {n b0 b1 b2 b3 : Nat} (h0 : lead b0 ≠ 1) (hn : lead b0 ≤ n) (h1 : low b0 ≤ b1 ∧ b1 ≤ high b0) (h2 : 3 ≤ lead b0 → 128 ≤ b2 ∧ b2 ≤ 191) (h3 : 4 ≤ lead b0 → 128 ≤ b3 ∧ b3 ≤ 191) :
    sz n b0 b1 b2 b3 = lead b0 := by
  unfold sz
  rw [if_neg (by omega), if_neg (by omega), if_neg (by omega)]

/-- With m bytes left in place of n: the same sign, where it fits into the m. -/
theorem sz_less {n m b0 b1 b2 b3 c1 c2 c3 : Nat} (hm : sz n b0 b1 b2 b3 ≤ m) (hmn : m ≤ n) : sz m b0 b1 b2 b3 = sz n b0 b1 b2 b3 := by
  by_cases h : sz n b0 b1 b2 b3 = 1
  · by_cases h' : sz m b0 b1 b2 b3 = 1
    · rw [h, h']
    · obtain ⟨e, a, b, c, d, f⟩ := sz_many h'
      have := sz_of (n := n) a (by omega) c d f
      omega
  · obtain ⟨e, a, b, c, d, f⟩ := sz_many h
    rw [e]
    exact sz_of a (by omega) c d f

/-- Where the sign doesn't fit into m bytes, its first byte is a sign there. -/
theorem sz_cut {n m b0 b1 b2 b3 : Nat} (hm : m < sz n b0 b1 b2 b3) (h1 : 1 ≤ m) : sz m b0 b1 b2 b3 = 1 := by
  have h : sz n b0 b1 b2 b3 ≠ 1 := by omega
  obtain ⟨e, a, b, c, d, f⟩ := sz_many h
  unfold sz
  rw [if_pos (by omega)]

theorem sz_low {n b0 b1 b2 b3 : Nat} (h : b0 < 194) : sz n b0 b1 b2 b3 = 1 := by
  by_cases h' : sz n b0 b1 b2 b3 = 1
  · exact h'
  · have := lead_ge (sz_many h').2.1
    omega

/-- What lies beyond the end plays no part. -/
theorem sz_congr {n b0 b1 b2 b3 c1 c2 c3 : Nat} (h1 : 1 < n → b1 = c1) (h2 : 2 < n → b2 = c2) (h3 : 3 < n → b3 = c3) : sz n b0 b1 b2 b3 = sz n b0 c1 c2 c3 := by
  by_cases hl : lead b0 = 1 ∨ n < lead b0
  · unfold sz
    rw [if_pos (by omega), if_pos (by omega)]
  · have hc := lead_cases b0
    have e1 : b1 = c1 := h1 (by omega)
    subst e1
    by_cases h3' : 3 ≤ lead b0
    · have e2 : b2 = c2 := h2 (by omega)
      subst e2
      by_cases h4' : 4 ≤ lead b0
      · have e3 : b3 = c3 := h3 (by omega)
        subst e3
        rfl
      · unfold sz
        simp [h4']
    · have h4' : ¬ 4 ≤ lead b0 := by omega
      unfold sz
      simp [h3', h4']

set_option maxRecDepth 100000 in
set_option maxHeartbeats 4000000 in
/-- Go's own decoder reports as many. -/
theorem decode_sz (n b0 b1 b2 b3 : Nat) (hn : 1 ≤ n) (h0 : b0 < 256) (h1 : b1 < 256) (h2 : b2 < 256) (h3 : b3 < 256) : (Lib.decodeN n b0 b1 b2 b3).2 = sz n b0 b1 b2 b3 := by
  by_cases c0 : b0 < 194
  · rw [sz_low c0]
    unfold Lib.decodeN
    repeat' split
    all_goals first | rfl | (exfalso; omega)
  by_cases c1 : b0 < 224
  · rw [← Lib.slow_C2 n b0 b1 b2 b3 hn h1 h2 h3 (by omega)]
    have l : lead b0 = 2 := by unfold lead; rw [if_pos (by omega)]
    have lo : low b0 = 128 := by unfold low; rw [if_neg (by omega), if_neg (by omega)]
    have hi : high b0 = 191 := by unfold high; rw [if_neg (by omega), if_neg (by omega)]
    unfold Lib.slowN sz
    rw [l, lo, hi]
    repeat' split
    all_goals first | rfl | (exfalso; omega)
  by_cases c2 : b0 < 240
  · have l : lead b0 = 3 := by unfold lead; rw [if_neg (by omega), if_pos (by omega)]
    by_cases e0 : b0 = 224
    · rw [← Lib.slow_E0 n b0 b1 b2 b3 hn h1 h2 h3 e0]
      have lo : low b0 = 160 := by unfold low; rw [if_pos (by omega)]
      have hi : high b0 = 191 := by unfold high; rw [if_neg (by omega), if_neg (by omega)]
      unfold Lib.slowN sz
      rw [l, lo, hi]
      repeat' split
      all_goals first | rfl | (exfalso; omega)
    by_cases ed : b0 = 237
    · rw [← Lib.slow_ED n b0 b1 b2 b3 hn h1 h2 h3 ed]
      have lo : low b0 = 128 := by unfold low; rw [if_neg (by omega), if_neg (by omega)]
      have hi : high b0 = 159 := by unfold high; rw [if_pos (by omega)]
      unfold Lib.slowN sz
      rw [l, lo, hi]
      repeat' split
      all_goals first | rfl | (exfalso; omega)
    rw [← Lib.slow_E1 n b0 b1 b2 b3 hn h1 h2 h3 (by omega)]
    have lo : low b0 = 128 := by unfold low; rw [if_neg (by omega), if_neg (by omega)]
    have hi : high b0 = 191 := by unfold high; rw [if_neg (by omega), if_neg (by omega)]
    unfold Lib.slowN sz
    rw [l, lo, hi]
    repeat' split
    all_goals first | rfl | (exfalso; omega)
  by_cases c3 : b0 < 245
  · have l : lead b0 = 4 := by unfold lead; rw [if_neg (by omega), if_neg (by omega), if_pos (by omega)]
    by_cases e0 : b0 = 240
    · rw [← Lib.slow_F0 n b0 b1 b2 b3 hn h1 h2 h3 e0]
      have lo : low b0 = 144 := by unfold low; rw [if_neg (by omega), if_pos (by omega)]
      have hi : high b0 = 191 := by unfold high; rw [if_neg (by omega), if_neg (by omega)]
      unfold Lib.slowN sz
      rw [l, lo, hi]
      repeat' split
      all_goals first | rfl | (exfalso; omega)
    by_cases ed : b0 = 244
    · rw [← Lib.slow_F4 n b0 b1 b2 b3 hn h1 h2 h3 ed]
      have lo : low b0 = 128 := by unfold low; rw [if_neg (by omega), if_neg (by omega)]
      have hi : high b0 = 143 := by unfold high; rw [if_neg (by omega), if_pos (by omega)]
      unfold Lib.slowN sz
      rw [l, lo, hi]
      repeat' split
      all_goals first | rfl | (exfalso; omega)
    rw [← Lib.slow_F1 n b0 b1 b2 b3 hn h1 h2 h3 (by omega)]
    have lo : low b0 = 128 := by unfold low; rw [if_neg (by omega), if_neg (by omega)]
    have hi : high b0 = 191 := by unfold high; rw [if_neg (by omega), if_neg (by omega)]
    unfold Lib.slowN sz
    rw [l, lo, hi]
    repeat' split
    all_goals first | rfl | (exfalso; omega)
  have l : lead b0 = 1 := by unfold lead; rw [if_neg (by omega), if_neg (by omega), if_neg (by omega)]
  have : sz n b0 b1 b2 b3 = 1 := by unfold sz; rw [if_pos (by omega)]
  rw [this]
  unfold Lib.decodeN
  repeat' split
  all_goals first | rfl | (exfalso; omega)

end Go.Proofs.PlatenGlyph
