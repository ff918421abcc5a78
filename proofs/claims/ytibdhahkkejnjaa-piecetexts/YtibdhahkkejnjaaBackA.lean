/- The document's Same where one of the two comes in as an argument; what an Insert and a Delete leave of a table's pieces. -/
import Derived.Test.YtibdhahkkejnjaaTabQ
namespace Go.Proofs.PlatenPiece
open Go Go.RowKit
set_option linter.unusedVariables false
set_option maxRecDepth 100000

set_option maxHeartbeats 1000000 in
theorem same_ad (g : Nat) (ad : Addr) (c c' n : Nat) (l : List Nat) (w : World) (hl : ∀ x ∈ l, x < 256) (hn : l.length = n) (hn2 : n ≤ 1000000)
    (hc : ∀ j u, (bytesV l)[j]? = some u → w.cell? ⟨g, j, none⟩ = some u) (hc' : ∀ j u, (bytesV l)[j]? = some u → w.cell? (ad.add j) = some u) :
    Calls Try.prog 21 #[.slice (some ⟨g, 0, none⟩) n c, .slice (some ad) n c'] w fun e w' => e = .returned (.bool true) ∧ Below w.heap.size w w' := by
  have HG : Hid (∀ k, k < n → ∃ x : Nat, x < 256 ∧ ∀ wr, Below w.heap.size w wr → wr.cell? ⟨g, k, none⟩ = some (.int .u8 x) ∧ wr.cell? (ad.add k) = some (.int .u8 x)) := fun k hk => by
    have hk' : k < l.length := by omega
    refine ⟨l[k], hl _ (List.getElem_mem hk'), fun wr hb => ?_⟩
    have e : (bytesV l)[k]? = some (.int .u8 (l[k] : Nat)) := by simp [bytesV, List.getElem?_eq_getElem hk']
    have h1 := hc k _ e
    have h2 := hc' k _ e
    rw [hb.cell (p := ⟨g, k, none⟩) (World.block_lt_of_cell? _ _ h1), hb.cell (p := ad.add k) (World.block_lt_of_cell? _ _ h2)]
    exact ⟨h1, h2⟩
  clear hc hc' hl hn
  go_enter Try.func21, Try.ntmps21
  go_wp2
  go_loopw [5] (fun i wr => ∃ k : Nat, k ≤ n ∧ i = .int .i64 k ∧ Below w.heap.size w wr) (fun i _ => n - (intOf i).toNat)
  case atStart => exact ⟨0, Nat.zero_le _, rfl, Below.refl _ _⟩
  case round =>
    obtain ⟨k, hk, rfl, hb⟩ := hrel
    by_cases hlt : k < n
    · obtain ⟨x, hx, hh⟩ := HG.out k hlt
      obtain ⟨g1, g2⟩ := hh wr hb
      have hkz : (k : Int) < (n : Int) := by omega
      clear hh
      go_wp2
      go_quiet (fail)
      go_wp2
      go_roundw
      case rel => exact ⟨k + 1, by omega, by go_num, by first | exact hb | exact hb.drew | exact ⟨hb.os, hb.tape, hb.output, hb.size, hb.block⟩⟩
      case measure => simp [intOf]; omega
    · have hz : ¬ ((k : Int) < (n : Int)) := by omega
      go_wp2
      go_ret
      exact ⟨rfl, hb⟩

theorem same_src (g c : Nat) (v' : Value) (l : List Nat) (w : World) (hl : ∀ x ∈ l, x < 256) (hn : l.length ≤ 1000000) (hh : w.heap[g]? = some (.cells (bytesV l).toArray 5 (0, 0))) (h' : Src w v' l) :
    Calls Try.prog 21 #[.slice (some ⟨g, 0, none⟩) l.length c, v'] w fun e w' => e = .returned (.bool true) ∧ Below w.heap.size w w' := by
  rcases h' with ⟨rfl, rfl⟩ | ⟨ad, cap, rfl, hc⟩
  · exact same_none _ _ _ _ w
  · exact same_ad g ad c cap l.length l w hl rfl hn (fun j u hj => by simp only [World.cell?, hh]; simpa using hj) hc

theorem Cut.pos {ps ps' : List Pc} {at' i : Nat} (h : Cut ps at' i ps') (hp : ∀ p ∈ ps, 0 < p.l.length) : ∀ p ∈ ps', 0 < p.l.length := by
  rcases h with ⟨rfl, _, _⟩ | ⟨j, p, n, q1, q2, hpj, hl, h0, h1, rfl, rfl⟩
  · exact hp
  · intro x hx
    simp only [List.mem_append, List.mem_cons, List.not_mem_nil, or_false] at hx
    rcases hx with hx | (rfl | rfl) | hx
    · exact hp x (List.mem_of_mem_take hx)
    · simp only [List.length_take]; omega
    · simp only [List.length_drop]; omega
    · exact hp x (List.mem_of_mem_drop hx)

/-- Nothing is deleted: the pieces of a cut. -/
theorem Del.zero {ps ps' : List Pc} {at' : Nat} (h : Del ps at' 0 ps') (hp : ∀ p ∈ ps, 0 < p.l.length) : ∃ i, Cut ps at' i ps' := by
  obtain ⟨i, ps1, j, ps2, h1, h2, _, _, rfl⟩ := h
  obtain ⟨rfl, rfl⟩ := h2.edge (h1.pos hp) h1.le.1 h1.flat.2
  exact ⟨j, by rw [List.take_append_drop]; exact h1⟩
theorem Del.same {ps ps' : List Pc} {at' k : Nat} (h : Del ps at' 0 ps') (hp : ∀ p ∈ ps, 0 < p.l.length) (hk : k ≤ ps.length) (he : lenSum (ps.take k) = at') : ps' = ps := by
  obtain ⟨i, hc⟩ := h.zero hp
  exact (hc.edge hp hk he).1

/-- What was inserted is deleted: the pieces of a cut. -/
theorem Del.back {ps ps5 ps' : List Pc} {at' : Nat} {l : List Nat} (hi : Ins ps at' l 0 ps5) (h : Del ps5 at' l.length ps') (hp : ∀ p ∈ ps, 0 < p.l.length) (h0 : 0 < l.length) : ∃ i, Cut ps at' i ps' := by
  obtain ⟨i, ps1, hc, hh⟩ := hi
  rcases hh with ⟨_, q, rfl⟩ | ⟨_, ha, _⟩
  · have hle := hc.le.1
    have hsum := hc.flat.2
    have hp1 := hc.pos hp
    have hl1 : (ps1.take i).length = i := by rw [List.length_take]; omega
    have hp5 : ∀ p ∈ ps1.take i ++ ([⟨q, l, 0 + l.length⟩] ++ ps1.drop i), 0 < p.l.length := by
      intro x hx
      simp only [List.mem_append, List.mem_cons, List.not_mem_nil, or_false] at hx
      rcases hx with hx | rfl | hx
      · exact hp1 x (List.mem_of_mem_take hx)
      · exact h0
      · exact hp1 x (List.mem_of_mem_drop hx)
    have t1 : (ps1.take i ++ ([(⟨q, l, 0 + l.length⟩ : Pc)] ++ ps1.drop i)).take i = ps1.take i := by
      rw [List.take_append_of_le_length (by omega), List.take_of_length_le (by omega)]
    have t2 : (ps1.take i ++ ([(⟨q, l, 0 + l.length⟩ : Pc)] ++ ps1.drop i)).take (i + 1) = ps1.take i ++ [⟨q, l, 0 + l.length⟩] := by
      rw [← List.append_assoc, List.take_append_of_le_length (by rw [List.length_append, hl1]; simp), List.take_of_length_le (by rw [List.length_append, hl1]; simp)]
    have t3 : (ps1.take i ++ ([(⟨q, l, 0 + l.length⟩ : Pc)] ++ ps1.drop i)).drop (i + 1) = ps1.drop i := by
      rw [← List.append_assoc, List.drop_append, List.drop_of_length_le (by rw [List.length_append, hl1]; simp), List.nil_append, List.length_append, hl1]
      simp
    obtain ⟨i', psa, j, psb, d1, d2, _, _, rfl⟩ := h
    obtain ⟨rfl, rfl⟩ := d1.edge (k := i) hp5 (by simp only [List.length_append, hl1]; omega) (by rw [t1]; exact hsum)
    obtain ⟨rfl, rfl⟩ := d2.edge (k := i' + 1) hp5 (by simp only [List.length_append, hl1, List.length_cons]; omega) (by rw [t2, lenSum_app, hsum]; simp [lenSum])
    refine ⟨i', ?_⟩
    rw [t1, t3, List.take_append_drop]
    exact hc
  · omega

/-- How many pieces a cut of at most one piece makes. -/
def wantOf (n k : Nat) : Nat := if n = 0 then 0 else if 0 < k ∧ k < n then 2 else 1
theorem Cut.count {ps ps' : List Pc} {k i : Nat} {l : List Nat} (h : Cut ps k i ps') (hp : ∀ p ∈ ps, 0 < p.l.length) (h1 : ps.length ≤ 1) (hf : PlatenPiece.flat ps = l) : ps'.length = wantOf l.length k := by
  match ps, h1 with
  | [], _ =>
    have hl : l = [] := hf.symm
    subst hl
    rcases h with ⟨rfl, _, _⟩ | ⟨j, p, n, q1, q2, hpj, _⟩
    · rfl
    · simp at hpj
  | [p], _ =>
    have hl : p.l = l := by rw [← hf]; simp [PlatenPiece.flat]
    subst hl
    have hp0 := hp p (by simp)
    rcases h with ⟨rfl, hi, he⟩ | ⟨j, p', n, q1, q2, hpj, hl, h0, h1, rfl, rfl⟩
    · have hk : k = 0 ∨ k = p.l.length := by
        match i, hi with
        | 0, _ => left; simpa [lenSum] using he.symm
        | 1, _ => right; simpa [lenSum] using he.symm
      unfold wantOf
      rw [if_neg (by omega), if_neg (by omega)]
      rfl
    · match j, hpj with
      | 0, hpj =>
        have hpe : p = p' := by simpa using hpj
        subst hpe
        have hk : n = k := by simpa [lenSum] using hl
        unfold wantOf
        rw [if_neg (by omega), if_pos (by omega)]
        rfl
      | j + 1, hpj => simp at hpj
end Go.Proofs.PlatenPiece
