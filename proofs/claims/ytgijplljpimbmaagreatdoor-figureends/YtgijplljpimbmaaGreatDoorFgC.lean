/- What figure.digits, prefix, counted, fraction, exponent, Len come to. -/
import Derived.Test.YtgijplljpimbmaaGreatDoorFgB
import Derived.Test.YtgijplljpimbmaaGreatDoorShelf
namespace Go.Proofs.PlatenFigure
open Go.RowKit Go.Shelf
set_option linter.unusedVariables false

def L (s : ByteArray) : List UInt8 := s.data.toList
def S (l : List UInt8) : ByteArray := ⟨l.toArray⟩
theorem L_ext (s : ByteArray) (i j : Nat) : L (s.extract i j) = ((L s).drop i).take (j - i) := by
  simp [ByteArray.data_extract, L]
theorem L_from (s : ByteArray) (i : Nat) : L (s.extract i s.size) = (L s).drop i := by
  rw [L_ext, List.take_of_length_le]
  rw [List.length_drop]; exact Nat.le_refl _
theorem len_L (s : ByteArray) : (L s).length = s.size := rfl
theorem size_from (s : ByteArray) (i : Nat) (h : i ≤ s.size) : (s.extract i s.size).size = s.size - i := by
  rw [ByteArray.size_extract]; omega
theorem get_L (s : ByteArray) (k : Nat) (h : k < s.size) : s[k] = (L s).getD k 0 := by
  have h' : k < (L s).length := h
  rw [List.getD_eq_getElem?_getD, List.getElem?_eq_getElem h']
  rfl

def dg (c : UInt8) : Bool := decide (48 ≤ c.toNat ∧ c.toNat ≤ 57)
def nd (l : List UInt8) : Nat := (l.takeWhile dg).length
def pfx (l : List UInt8) : List (List UInt8) → Nat
  | [] => 0
  | p :: ps => if Lib.hasPrefix l p then p.length else pfx l ps
def cnt (l : List UInt8) (n : Nat) : Nat := if n = 0 ∨ nd (l.drop n) = 0 then 0 else n + nd (l.drop n)
def frac (l : List UInt8) : Nat := cnt l (pfx l [[46]])
def expo (l : List UInt8) : Nat := if pfx l [[101], [69]] = 0 then 0 else cnt l (pfx l [[101], [69]] + pfx (l.drop (pfx l [[101], [69]])) [[45], [43]])
def sgn (l : List UInt8) : Nat := pfx l [[45], [43]]
def wrd (l : List UInt8) : Nat := pfx l [[110, 97, 110], [105, 110, 102]]
def tail1 (l : List UInt8) (e : Nat) : Nat := (e + frac (l.drop e)) + expo (l.drop (e + frac (l.drop e)))
def flen (l : List UInt8) : Nat :=
  if 0 < wrd (l.drop (sgn l)) then sgn l + wrd (l.drop (sgn l))
  else if nd (l.drop (sgn l)) = 0 then 0 else tail1 l (sgn l + nd (l.drop (sgn l)))

theorem tw_len (p : UInt8 → Bool) : ∀ (l : List UInt8) (k : Nat), k ≤ l.length → (∀ j, j < k → p (l.getD j 0) = true) → (k < l.length → p (l.getD k 0) = false) → (l.takeWhile p).length = k
  | [], k, h, _, _ => by simp at h; simp [h]
  | a :: t, 0, _, _, h => by have := h (by simp); simp at this; simp [this]
  | a :: t, k + 1, h1, h2, h3 => by
    have h0 := h2 0 (by omega)
    simp at h0
    rw [List.takeWhile_cons_of_pos h0]
    simp only [List.length_cons, Nat.add_right_cancel_iff]
    exact tw_len p t k (by simpa using h1) (fun j hj => by simpa using h2 (j + 1) (by omega)) (fun hk => by simpa using h3 (by simpa using hk))
theorem nd_le (l : List UInt8) : nd l ≤ l.length := by
  have := congrArg List.length (List.takeWhile_append_dropWhile (p := dg) (l := l))
  rw [List.length_append] at this
  unfold nd; omega

set_option maxHeartbeats 1000000 in
theorem digits_any (s : ByteArray) (w : World) (hs : s.size ≤ 1000000) :
    Calls Tryz.prog 32 #[.string s] w fun e w' => e = .returned (.int .i64 (nd (L s) : Nat)) ∧ w' = w := by
  go_enter Tryz.func32, Tryz.ntmps32
  go_wp2
  go_loop [3] (fun i => ∃ k : Nat, k ≤ s.size ∧ i = .int .i64 k ∧ ∀ j, j < k → dg ((L s).getD j 0) = true) (fun i => s.size - (intOf i).toNat)
  case atStart => exact ⟨0, Nat.zero_le _, rfl, fun j hj => absurd hj (Nat.not_lt_zero _)⟩
  case round =>
    obtain ⟨k, hk, rfl, hall⟩ := hrel
    by_cases hlt : k < s.size
    · have hg := get_L s k hlt
      by_cases h1 : 48 ≤ ((L s).getD k 0).toNat
      · by_cases h2 : ((L s).getD k 0).toNat ≤ 57
        · have HA : Hid (∀ j, j < k + 1 → dg ((L s).getD j 0) = true) := fun j hj => by
            by_cases e : j = k
            · subst e; simp only [dg, decide_eq_true_eq]; exact ⟨h1, h2⟩
            · exact hall j (by omega)
          clear hall
          generalize (L s).getD k 0 = c at *
          go_wp2
          go_round
          case rel => exact ⟨k + 1, by omega, by go_num, HA.out⟩
          case measure => simp [intOf]; omega
        · have HF := hidden (show nd (L s) = k from tw_len dg (L s) k hk hall (fun _ => by simp only [dg, decide_eq_false_iff_not]; omega))
          clear hall
          generalize (L s).getD k 0 = c at *
          go_wp2
          go_ret
          exact ⟨by rw [HF.out]; rfl, rfl⟩
      · have HF := hidden (show nd (L s) = k from tw_len dg (L s) k hk hall (fun _ => by simp only [dg, decide_eq_false_iff_not]; omega))
        clear hall
        generalize (L s).getD k 0 = c at *
        go_wp2
        go_ret
        exact ⟨by rw [HF.out]; rfl, rfl⟩
    · obtain rfl : k = s.size := by omega
      have HF := hidden (show nd (L s) = s.size from tw_len dg (L s) _ hk hall (fun h => absurd h (Nat.lt_irrefl _)))
      clear hall
      go_wp2
      go_ret
      exact ⟨by rw [HF.out]; rfl, rfl⟩

/-- A row of texts in memory. -/
def Strs (w : World) (b : Nat) (ps : List (List UInt8)) : Prop := ∀ j, j < ps.length → w.cell? ⟨b, j, none⟩ = some (.string (S (ps.getD j [])))
theorem pfx_skip (l : List UInt8) : ∀ (ps : List (List UInt8)) (k : Nat), (∀ j, j < k → Lib.hasPrefix l (ps.getD j []) = false) → k ≤ ps.length → pfx l ps = pfx l (ps.drop k)
  | ps, 0, _, _ => rfl
  | [], k + 1, _, h => by simp at h
  | p :: ps, k + 1, h, hl => by
    have h0 := h 0 (by omega)
    simp at h0
    show (if Lib.hasPrefix l p then p.length else pfx l ps) = pfx l (ps.drop k)
    rw [if_neg (by simp [h0])]
    exact pfx_skip l ps k (fun j hj => by simpa using h (j + 1) (by omega)) (by simpa using hl)
theorem pfx_at (l : List UInt8) (ps : List (List UInt8)) (k : Nat) (h : ∀ j, j < k → Lib.hasPrefix l (ps.getD j []) = false) (hk : k < ps.length) (hp : Lib.hasPrefix l (ps.getD k []) = true) : pfx l ps = (ps.getD k []).length := by
  rw [pfx_skip l ps k h (by omega), List.drop_eq_getElem_cons hk]
  have e : ps.getD k [] = ps[k] := by rw [List.getD_eq_getElem?_getD, List.getElem?_eq_getElem hk]; rfl
  rw [e] at hp ⊢
  unfold pfx
  rw [if_pos hp]

set_option maxHeartbeats 1000000 in
theorem prefix_any (s : ByteArray) (b n : Nat) (ps : List (List UInt8)) (w : World) (hn : n = ps.length) (hn2 : n ≤ 100) (hl : ∀ j, j < n → (ps.getD j []).length ≤ 100) (hc : Strs w b ps) :
    Calls Tryz.prog 31 #[.string s, .slice (some ⟨b, 0, none⟩) n n] w fun e w' => e = .returned (.int .i64 (pfx (L s) ps : Nat)) ∧ w' = w := by
  have hn1 : n ≤ ps.length := by omega
  have hn3 : ps.length ≤ n := by omega
  clear hn
  go_enter Tryz.func31, Tryz.ntmps31
  go_wp2
  go_loop [9] (fun i => ∃ k : Nat, k ≤ n ∧ i = .int .i64 k ∧ ∀ j, j < k → Lib.hasPrefix (L s) (ps.getD j []) = false) (fun i => n - (intOf i).toNat)
  case atStart => exact ⟨0, Nat.zero_le _, rfl, fun j hj => absurd hj (Nat.not_lt_zero _)⟩
  case round =>
    obtain ⟨k, hk, rfl, hall⟩ := hrel
    by_cases hlt : k < n
    · have cc : w.cell? ⟨b, k, none⟩ = some (.string (S (ps.getD k []))) := hc k (by omega)
      have hz : (S (ps.getD k [])).size ≤ 100 := hl k hlt
      have cp := Tryz.strings_HasPrefix s (S (ps.getD k [])) w
      rw [show s.data.toList = L s from rfl, show (S (ps.getD k [])).data.toList = ps.getD k [] from rfl] at cp
      cases hp : Lib.hasPrefix (L s) (ps.getD k [])
      · have HA : Hid (∀ j, j < k + 1 → Lib.hasPrefix (L s) (ps.getD j []) = false) := fun j hj => by
          by_cases e : j = k
          · subst e; exact hp
          · exact hall j (by omega)
        rw [hp] at cp
        clear hall hp hc hl
        generalize S (ps.getD k []) = q at *
        go_wp2_with fail
        refine cp.mono ?_
        rintro e w' ⟨rfl, rfl⟩
        go_wp2
        go_round
        case rel => exact ⟨k + 1, by omega, by go_num, HA.out⟩
        case measure => simp [intOf]; omega
      · have HF := hidden (pfx_at (L s) ps k hall (by omega) hp)
        have HS : Hid (((S (ps.getD k [])).size : Int) = (pfx (L s) ps : Nat)) := by unfold Hid; rw [HF.out]; rfl
        rw [hp] at cp
        clear hall hp hc hl HF
        generalize S (ps.getD k []) = q at *
        go_wp2_with fail
        refine cp.mono ?_
        rintro e w' ⟨rfl, rfl⟩
        go_wp2
        go_ret
        exact ⟨by rw [← HS.out]; rfl, rfl⟩
    · obtain rfl : k = n := by omega
      have HF : Hid (pfx (L s) ps = 0) := by
        unfold Hid
        rw [pfx_skip (L s) ps _ hall (by omega), List.drop_of_length_le (by omega)]
        rfl
      clear hall
      go_wp2
      go_ret
      exact ⟨by rw [HF.out]; rfl, rfl⟩
end Go.Proofs.PlatenFigure
