/- What split comes to. -/
import Derived.Test.YtibdhahkkejnjaaTabE
import Derived.Test.YtibdhahkkejnjaaSum
namespace Go.Proofs.PlatenPiece
open Go Go.RowKit
set_option linter.unusedVariables false

/-- What a table's pieces are behind a split at an offset, and at which index it is. -/
def Cut (ps : List Pc) (at' i : Nat) (ps' : List Pc) : Prop :=
  (ps' = ps ∧ i ≤ ps.length ∧ lenSum (ps.take i) = at') ∨
  ∃ j p n q1 q2, ps[j]? = some p ∧ lenSum (ps.take j) + n = at' ∧ 0 < n ∧ n < p.l.length ∧ i = j + 1 ∧
    ps' = ps.take j ++ ([⟨q1, p.l.take n, p.k - (p.l.length - n : Nat)⟩, ⟨q2, p.l.drop n, p.k⟩] ++ ps.drop (j + 1))

set_option maxHeartbeats 4000000 in
set_option maxRecDepth 100000 in
theorem split_tab (B T : Nat) (pv : Value) (ps : List Pc) (s a : Int) (at' : Nat) (w : World) (h : Tab B w T pv ps s a) (hB : B ≤ w.heap.size) (hN : ps.length ≤ 100000) (hat : at' ≤ lenSum ps) (hS : lenSum ps ≤ 65536)
    (hk : ∀ p ∈ ps, -1000000000 ≤ p.k ∧ p.k ≤ 1000000000) :
    Calls Try.prog 66 #[.pointer (some ⟨T, 0, none⟩), .int .i64 at'] w fun e w' => ∃ i : Nat, e = .returned (.int .i64 i) ∧ ∃ (pv' : Value) (ps' : List Pc), Tab B w' T pv' ps' s a ∧ Cut ps at' i ps' ∧ Kept (Own T pv ps) w w' ∧ (∀ k, k < w.heap.size → Own T pv' ps' k → Own T pv ps k) := by
  have hf : ∃ va vc, pv = .slice va ps.length vc := by
    rcases h.row.2 with ⟨e, h0⟩ | ⟨g, cap, cur, e, _⟩
    · exact ⟨_, _, by rw [e, h0]⟩
    · exact ⟨_, _, e⟩
  obtain ⟨va, vc, rfl⟩ := hf
  have hc0 := h.c0
  have Htab := hidden h
  have Hat := hidden hat
  have Hk := hidden hk
  clear h hat hk
  obtain ⟨N, hNe⟩ : ∃ N, ps.length = N := ⟨_, rfl⟩
  have HNe := hidden hNe
  rw [hNe] at hc0 hN
  clear hNe
  go_enter Try.func66, Try.ntmps66
  go_wp2
  go_loop [1, 12] (fun x y => ∃ (j r : Nat), j ≤ N ∧ x = .int .i64 r ∧ y = .int .i64 j ∧ lenSum (ps.take j) + r = at') (fun _ y => N - (intOf y).toNat)
  case atStart => exact ⟨0, at', Nat.zero_le _, rfl, rfl, by simp [lenSum]⟩
  case round =>
    obtain ⟨j, r, hj, rfl, rfl, hr⟩ := hrel
    by_cases hlt : j < N
    · obtain ⟨p, hp⟩ : ∃ p, ps[j]? = some p := ⟨_, List.getElem?_eq_getElem (by rw [HNe.out]; exact hlt)⟩
      have hpm : p ∈ ps := List.mem_of_getElem? hp
      obtain ⟨g, cap, e, hcap, hgT, hgw, hBg⟩ := Htab.out.form j (by rw [HNe.out]; exact hlt)
      simp only [Value.slice.injEq, true_and] at e
      obtain ⟨rfl, rfl⟩ := e
      obtain ⟨hx0, hx1⟩ := Htab.out.part j p hp
      obtain ⟨q, c, hpv, hqc, hqm, hqs⟩ := (Htab.out.good p hpm).src
      rw [hpv] at hx0
      have hjz : (j : Int) < (N : Int) := by omega
      have hpl : p.l.length ≤ lenSum ps := by
        have h1 := lenSum_succ hp
        have h2 := lenSum_take ps (j + 1)
        omega
      have hpk := Hk.out p hpm
      have Hp := hidden hp
      have Hr := hidden hr
      have hsucc := lenSum_succ hp
      obtain ⟨L, hL⟩ : ∃ L, p.l.length = L := ⟨_, rfl⟩
      rw [hL] at hx0 hpl hsucc
      have HL := hidden hL
      have Hsucc := hidden hsucc
      clear hpv hqs hp hr hpm hsucc hL
      by_cases hr0 : r = 0
      · subst hr0
        go_wp2
        go_ret
        exact ⟨j, rfl, _, ps, Htab.out, Or.inl ⟨rfl, by rw [HNe.out]; exact hj, by have := Hr.out; omega⟩, Kept.refl _ _, fun _ _ h => h⟩
      · have hrz : ¬ ((r : Int) = 0) := by omega
        by_cases hrl : r < L
        · have hrlz : (r : Int) < (L : Int) := by omega
          have Hhalve := hidden (halve_tab B T _ ps s a j r p w Htab.out hB (by rw [HNe.out]; exact hN) Hp.out (by omega) (by rw [HL.out]; exact hrl) (by rw [HL.out]; omega) hpk)
          go_wp2_with fail
          refine Hhalve.out.mono ?_
          rintro e w' ⟨rfl, pv', q1, q2, hT', hK, hO⟩
          have HT' := hidden hT'
          have HK := hidden hK
          have HO := hidden hO
          clear hT' hK hO
          go_wp2
          go_ret
          exact ⟨j + 1, by go_num, pv', _, HT'.out, Or.inr ⟨j, p, r, q1, q2, Hp.out, Hr.out, by omega, by rw [HL.out]; exact hrl, rfl, rfl⟩, HK.out, HO.out⟩
        · have hrlz : ¬ ((r : Int) < (L : Int)) := by omega
          have hw1 : IntKind.i64.wrap ((r : Int) - (L : Int)) = (r : Int) - (L : Int) := IntWalk.i64_in _ (by have := Hr.out; have := Hat.out; omega)
          go_wp2
          go_round
          case rel => exact ⟨j + 1, r - L, by omega, by go_num, by go_num, by have h1 := Hr.out; have h2 := Hsucc.out; omega⟩
          case measure => simp [intOf]; omega
    · have hz : ¬ ((j : Int) < (N : Int)) := by omega
      have hjN : j = N := by omega
      have Hend : Hid (Cut ps at' N ps) := by
        refine Or.inl ⟨rfl, by rw [HNe.out]; exact Nat.le_refl _, ?_⟩
        have h1 := Hat.out
        rw [List.take_of_length_le (by rw [HNe.out]; omega)] at hr ⊢
        omega
      clear hr
      go_wp2
      go_ret
      exact ⟨N, rfl, _, ps, Htab.out, Hend.out, Kept.refl _ _, fun _ _ h => h⟩
end Go.Proofs.PlatenPiece
