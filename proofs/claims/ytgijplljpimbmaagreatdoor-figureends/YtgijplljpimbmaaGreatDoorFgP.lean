/- What strconv.readFloat comes to at a number's text. -/
import Derived.Test.YtgijplljpimbmaaGreatDoorFgO
import Derived.Deep.CutRange
import Derived.Deep.CutBlock
import Derived.WalkMore
namespace Go.Proofs.PlatenFigure
open Go.RowKit
set_option linter.unusedVariables false

/-- A text of a sign or none, digits with a point or none, and an exponent or none. -/
structure Num (l : List UInt8) (i0 pm pe : Nat) (neg eneg : Bool) : Prop where
  sg : (i0 = 0 ∧ neg = false ∧ 48 ≤ (l.getD 0 0).toNat) ∨ (i0 = 1 ∧ ((neg = false ∧ (l.getD 0 0).toNat = 43) ∨ (neg = true ∧ (l.getD 0 0).toNat = 45)))
  lt : i0 < pm
  le : pm ≤ l.length
  ms : ∀ i, i0 ≤ i → i < pm → mc (l.getD i 0) = true
  first : dg (l.getD i0 0) = true
  one : ∀ k, i0 + k < pm → (l.getD (i0 + k) 0).toNat = 46 → (foldR l i0 k).dot = false
  tail : (pm = l.length ∧ pe = pm ∧ eneg = false) ∨ (pm < pe ∧ pe < l.length ∧ ((l.getD pm 0).toNat = 101 ∨ (l.getD pm 0).toNat = 69) ∧ (∀ i, pe ≤ i → i < l.length → dg (l.getD i 0) = true) ∧
    ((pe = pm + 1 ∧ eneg = false) ∨ (pe = pm + 2 ∧ ((eneg = false ∧ (l.getD (pm + 1) 0).toNat = 43) ∨ (eneg = true ∧ (l.getD (pm + 1) 0).toNat = 45)))))
/-- What is read. -/
def rdM (l : List UInt8) (i0 pm : Nat) : R := foldR l i0 (pm - i0)
def rdE (l : List UInt8) (pm pe : Nat) : Nat := foldE l pe (l.length - pe)
def rdP (l : List UInt8) (i0 pm pe : Nat) (eneg : Bool) : Int :=
  if (rdM l i0 pm).m = 0 then 0 else
    (if (rdM l i0 pm).dot then (rdM l i0 pm).dp else (rdM l i0 pm).nd) + (if eneg then -(rdE l pm pe : Int) else rdE l pm pe) - (rdM l i0 pm).nm

/-- A fact that no step looks into. -/
structure Box (p : Prop) : Prop where
  out : p
/-- The slots hold what is gathered. -/
def St (r : R) (m tr us dot dig nd nm dp : Value) : Prop :=
  m = .int .u64 (r.m : Nat) ∧ tr = .bool r.tr ∧ us = .bool false ∧ dot = .bool r.dot ∧ dig = .bool r.dig ∧ nd = .int .i64 (r.nd : Nat) ∧ nm = .int .i64 (r.nm : Nat) ∧ dp = .int .i64 r.dp
theorem dig_step (r : R) (c : UInt8) (h : r.dig = true) : (stepR r c).dig = true := by
  unfold stepR
  split
  · exact h
  · split
    · rfl
    · split <;> rfl
theorem dig_first (r : R) (c : UInt8) (h : dg c = true) : (stepR r c).dig = true := by
  simp only [dg, decide_eq_true_eq] at h
  unfold stepR
  rw [if_neg (by omega)]
  split
  · rfl
  · split <;> rfl
theorem dig_true (l : List UInt8) (i0 : Nat) (h : dg (l.getD i0 0) = true) : ∀ k, (foldR l i0 (k + 1)).dig = true
  | 0 => dig_first _ _ h
  | k + 1 => dig_step _ _ (dig_true l i0 h k)
theorem Num.dig {l : List UInt8} {i0 pm pe : Nat} {neg eneg : Bool} (h : Num l i0 pm pe neg eneg) : (rdM l i0 pm).dig = true := by
  have := dig_true l i0 h.first (pm - i0 - 1)
  rw [show pm - i0 - 1 + 1 = pm - i0 by have := h.lt; omega] at this
  exact this
theorem low_e : ∀ c : Fin 256, (c.val = 101 ∨ c.val = 69) → (bits .or .u8 (c.val : Int) 32 == 101) = true := by decide +kernel
theorem low_fin : ∀ c : Fin 256, (c.val = 46 ∨ (48 ≤ c.val ∧ c.val ≤ 57) ∨ c.val = 101 ∨ c.val = 69) → (bits .or .u8 (c.val : Int) 32 == 120) = false := by decide +kernel
theorem low_nox (c : UInt8) (h : c.toNat = 46 ∨ (48 ≤ c.toNat ∧ c.toNat ≤ 57) ∨ c.toNat = 101 ∨ c.toNat = 69) : (bits .or .u8 (c.toNat : Int) 32 == 120) = false := low_fin ⟨c.toNat, c.toNat_lt⟩ h
theorem Num.nox {l : List UInt8} {i0 pm pe : Nat} {neg eneg : Bool} (h : Num l i0 pm pe neg eneg) (h2 : i0 + 1 < l.length) : (bits .or .u8 ((l.getD (i0 + 1) 0).toNat : Int) 32 == 120) = false := by
  refine low_nox _ ?_
  rcases Nat.lt_or_ge (i0 + 1) pm with h3 | h3
  · have := h.ms (i0 + 1) (by omega) h3
    simp only [mc, decide_eq_true_eq] at this
    omega
  · have hp : pm = i0 + 1 := by have := h.lt; omega
    rcases h.tail with ⟨h4, _⟩ | ⟨_, _, h5, _⟩
    · omega
    · rw [← hp]; omega

set_option maxRecDepth 20000 in
set_option maxHeartbeats 8000000 in
theorem read_any (s : ByteArray) (i0 pm pe : Nat) (neg eneg : Bool) (w : World) (hs : s.size ≤ 1000) (hN : Num (L s) i0 pm pe neg eneg) :
    Calls Tryz.prog 89 #[.string s] w fun e w' =>
      e = .returned (.tuple #[.int .u64 ((rdM (L s) i0 pm).m : Nat), .int .i64 (rdP (L s) i0 pm pe eneg), .bool neg, .bool (rdM (L s) i0 pm).tr, .bool false, .int .i64 (s.size : Nat), .bool true]) ∧ w' = w := by
  have hpos : 0 < s.size := by have := hN.lt; have := hN.le; rw [len_L] at this; omega
  have hne : ¬ s = ByteArray.empty := by
    intro e
    rw [e] at hpos
    exact absurd hpos (by decide)
  have hg0 := get_L s 0 hpos
  have HN := hidden hN
  have hsg := hN.sg
  clear hN
  generalize (L s).getD 0 0 = c0 at *
  go_enter Tryz.func89, Tryz.ntmps89
  go_upto_block 0 with fail
  go_step3
  go_upto_block 0 with fail
  go_cut [4, 7] from 28 to 35 (fun a b wx => a = .bool neg ∧ b = .int .i64 i0 ∧ wx = w)
  case first =>
    rcases hsg with ⟨rfl, rfl, h48⟩ | ⟨rfl, ⟨rfl, h43⟩ | ⟨rfl, h45⟩⟩
    · go_wp2_with fail
      go_meet
      exact ⟨rfl, rfl, rfl⟩
    · go_wp2_with fail
      go_meet
      exact ⟨rfl, rfl, rfl⟩
    · go_wp2_with fail
      go_meet
      exact ⟨rfl, rfl, rfl⟩
  case rest =>
  obtain ⟨rfl, rfl, rfl⟩ := hcut
  have hi0 : i0 < s.size := by have := HN.out.lt; have := HN.out.le; rw [len_L] at this; omega
  have hi1 : i0 ≤ 1 := by omega
  clear hsg hg0
  go_upto_region 12 with fail
  go_cut [54] from 36 to 53 (fun a wx => a = .bool false ∧ wx = wc)
  case first =>
    have hgi := get_L s i0 hi0
    by_cases h2 : i0 + 2 < s.size
    · have hgj := get_L s (i0 + 1) (by omega)
      have hnx := HN.out.nox (by rw [len_L]; omega)
      have cl := Tryz.internal_strconv_lower (((L s).getD (i0 + 1) 0).toNat : Int) wc
      by_cases h48 : ((L s).getD i0 0).toNat = 48
      · generalize (L s).getD i0 0 = d0 at *
        generalize (L s).getD (i0 + 1) 0 = d1 at *
        go_wp2_with fail
        refine cl.mono ?_
        rintro e w' ⟨rfl, rfl⟩
        go_wp2_with fail
        go_meet
        exact ⟨rfl, rfl⟩
      · generalize (L s).getD i0 0 = d0 at *
        have h49 : (((d0.toNat : Nat) : Int) == 48) = false := by simp; omega
        clear cl hgj hnx
        go_wp2_with fail
        go_meet
        exact ⟨rfl, rfl⟩
    · generalize (L s).getD i0 0 = d0 at *
      go_wp2_with fail
      go_meet
      exact ⟨rfl, rfl⟩
  case rest =>
  obtain ⟨rfl, rfl⟩ := hcut
  go_wp2_with fail
  go_step3
  go_upto_block 1 with fail
  go_cut [2, 5, 9, 13, 14, 15, 16, 17, 7] from 57 to 138 (fun m tr us dot dig nd nm dp i wx => St (rdM (L s) i0 pm) m tr us dot dig nd nm dp ∧ i = .int .i64 pm ∧ wx = wc)
  case first =>
    have hlt := HN.out.lt
    have hle := HN.out.le
    rw [len_L] at hle
    go_wp2_with fail
    go_loop [2, 5, 9, 13, 14, 15, 16, 17, 7] (fun m tr us dot dig nd nm dp i => ∃ p : Nat, i0 ≤ p ∧ p ≤ pm ∧ i = .int .i64 (p : Nat) ∧ St (foldR (L s) i0 (p - i0)) m tr us dot dig nd nm dp) (fun _ _ _ _ _ _ _ _ i => s.size - (intOf i).toNat)
    case atStart => exact ⟨i0, Nat.le_refl _, by omega, rfl, by rw [Nat.sub_self]; exact ⟨rfl, rfl, rfl, rfl, rfl, rfl, rfl, rfl⟩⟩
    case round =>
    obtain ⟨p, hp0, hp, rfl, rfl, rfl, rfl, rfl, rfl, rfl, rfl, rfl⟩ := hrel
    have hok := okR (L s) i0 (p - i0) (fun j hj => HN.out.ms (i0 + j) (by omega) (by omega))
    have hsm := hok.small
    have hsm2 := hok.small2
    by_cases hkp : p < pm
    · have hgk := get_L s p (by omega)
      have hmc := HN.out.ms p (by omega) hkp
      have hone := HN.out.one (p - i0) (by omega)
      have HS : Hid (foldR (L s) i0 (p + 1 - i0) = stepR (foldR (L s) i0 (p - i0)) ((L s).getD p 0)) := by
        unfold Hid
        rw [show p + 1 - i0 = (p - i0) + 1 by omega]
        show stepR _ ((L s).getD (i0 + (p - i0)) 0) = _
        rw [show i0 + (p - i0) = p by omega]
      rw [show i0 + (p - i0) = p by omega] at hone
      simp only [mc, decide_eq_true_eq] at hmc
      generalize (L s).getD p 0 = c at *
      generalize hr' : foldR (L s) i0 (p + 1 - i0) = r' at *
      have HR' := hidden hr'
      clear hr'
      generalize foldR (L s) i0 (p - i0) = r at *
      obtain ⟨m, nd, nm, dp, tr, dot, dig⟩ := r
      obtain ⟨ok1, ok2, ok3, ok4, ok5, ok6⟩ := hok
      simp only at *
      have e1 : ((p + 1 : Nat) : Int) = (p : Int) + 1 := by omega
      clear ok2
      by_cases h46 : c.toNat = 46
      · have hd := hone h46
        subst hd
        have HR : Hid (r' = ⟨m, nd, nm, (nd : Int), tr, true, dig⟩) := by unfold Hid; rw [HS.out]; simp [stepR, h46]
        clear HS hone hmc
        go_wp2_with fail
        go_round
        case rel => exact ⟨p + 1, by omega, by omega, by rw [e1], by rw [HR'.out, HR.out]; exact ⟨rfl, rfl, rfl, rfl, rfl, rfl, rfl, rfl⟩⟩
        case measure => simp [intOf]; omega
      · have hdl : 48 ≤ c.toNat := by omega
        have hdh : c.toNat ≤ 57 := by omega
        by_cases h0 : c.toNat = 48
        · by_cases hnd : nd = 0
          · subst hnd
            have HR : Hid (r' = ⟨m, 0, nm, dp - 1, tr, dot, true⟩) := by unfold Hid; rw [HS.out]; simp [stepR, h0]
            clear HS hone hmc
            go_wp2_with fail
            go_round
            case rel => exact ⟨p + 1, by omega, by omega, by rw [e1], by rw [HR'.out, HR.out]; exact ⟨rfl, rfl, rfl, rfl, rfl, rfl, rfl, rfl⟩⟩
            case measure => simp [intOf]; omega
          · have hn0 : (((nd : Nat) : Int) == 0) = false := by simp [hnd]
            by_cases h19 : nm < 19
            · have HR : Hid (r' = ⟨m * 10, nd + 1, nm + 1, dp, tr, dot, true⟩) := by unfold Hid; rw [HS.out]; simp [stepR, h0, hnd, h19]
              have hsm3 := hsm2 h19
              clear HS hone hmc
              go_wp2_with fail
              go_round
              case rel => exact ⟨p + 1, by omega, by omega, by rw [e1], by rw [HR'.out, HR.out]; exact ⟨by simp, rfl, rfl, rfl, rfl, by simp, by simp, rfl⟩⟩
              case measure => simp [intOf]; omega
            · have HR : Hid (r' = ⟨m, nd + 1, nm, dp, tr, dot, true⟩) := by unfold Hid; rw [HS.out]; simp [stepR, h0, hnd, h19]
              clear HS hone hmc
              go_wp2_with fail
              go_round
              case rel => exact ⟨p + 1, by omega, by omega, by rw [e1], by rw [HR'.out, HR.out]; exact ⟨rfl, rfl, rfl, rfl, rfl, by simp, rfl, rfl⟩⟩
              case measure => simp [intOf]; omega
        · have hc48 : (((c.toNat : Nat) : Int) == 48) = false := by simp; omega
          by_cases h19 : nm < 19
          · have HR : Hid (r' = ⟨m * 10 + (c.toNat - 48), nd + 1, nm + 1, dp, tr, dot, true⟩) := by unfold Hid; rw [HS.out]; simp [stepR, h0, h46, h19]
            have hsm3 := hsm2 h19
            have e2 : ((m * 10 + (c.toNat - 48) : Nat) : Int) = (m : Int) * 10 + ((c.toNat : Int) - 48) := by omega
            clear HS hone hmc
            go_wp2_with fail
            go_round
            case rel => exact ⟨p + 1, by omega, by omega, by rw [e1], by rw [HR'.out, HR.out]; exact ⟨by rw [e2], rfl, rfl, rfl, rfl, by simp, by simp, rfl⟩⟩
            case measure => simp [intOf]; omega
          · have HR : Hid (r' = ⟨m, nd + 1, nm, dp, true, dot, true⟩) := by unfold Hid; rw [HS.out]; simp [stepR, h0, h46, h19]
            clear HS hone hmc
            go_wp2_with fail
            go_round
            case rel => exact ⟨p + 1, by omega, by omega, by rw [e1], by rw [HR'.out, HR.out]; exact ⟨rfl, rfl, rfl, rfl, rfl, by simp, rfl, rfl⟩⟩
            case measure => simp [intOf]; omega
    · obtain rfl : p = pm := by omega
      have HR : Hid (rdM (L s) i0 p = foldR (L s) i0 (p - i0)) := rfl
      generalize rdM (L s) i0 p = r' at *
      generalize foldR (L s) i0 (p - i0) = r at *
      obtain ⟨m, nd, nm, dp, tr, dot, dig⟩ := r
      simp only at *
      by_cases hend : p = s.size
      · go_wp2_with fail
        go_meet
        exact ⟨by rw [HR.out]; exact ⟨rfl, rfl, rfl, rfl, rfl, rfl, rfl, rfl⟩, rfl, rfl⟩
      · have hgp := get_L s p (by omega)
        have hce : ((L s).getD p 0).toNat = 101 ∨ ((L s).getD p 0).toNat = 69 := by
          rcases HN.out.tail with ⟨h, _⟩ | ⟨_, _, h, _⟩
          · rw [len_L] at h; omega
          · exact h
        generalize (L s).getD p 0 = c at *
        have hc9 : ¬ c.toNat = 95 := by omega
        go_wp2_with fail
        go_meet
        exact ⟨by rw [HR.out]; exact ⟨rfl, rfl, rfl, rfl, rfl, rfl, rfl, rfl⟩, rfl, rfl⟩
  case rest =>
  obtain ⟨⟨rfl, rfl, rfl, rfl, rfl, rfl, rfl, rfl⟩, rfl, rfl⟩ := hcut
  have hok := okR (L s) i0 (pm - i0) (fun j hj => HN.out.ms (i0 + j) (by omega) (by omega))
  have hdig := HN.out.dig
  have hle := HN.out.le
  rw [len_L] at hle
  have HP : Hid (rdP (L s) i0 pm pe eneg = if (rdM (L s) i0 pm).m = 0 then 0 else
    (if (rdM (L s) i0 pm).dot then (rdM (L s) i0 pm).dp else (rdM (L s) i0 pm).nd) + (if eneg then -(rdE (L s) pm pe : Int) else rdE (L s) pm pe) - (rdM (L s) i0 pm).nm) := rfl
  change OkR (rdM (L s) i0 pm) (pm - i0) at hok
  generalize hrr : rdM (L s) i0 pm = r at *
  generalize hxx : rdP (L s) i0 pm pe eneg = xp at *
  have HRR := hidden hrr
  have HXX := hidden hxx
  clear hrr hxx
  obtain ⟨m, nd, nm, dp, tr, dot, dig⟩ := r
  have hsm := hok.small
  obtain ⟨ok1, ok2, ok3, ok4, ok5, ok6⟩ := hok
  simp only at *
  subst hdig
  clear ok2
  go_upto_if 142 with fail
  go_cut [17] from 139 to 143 (fun a wx => a = .int .i64 (if dot then dp else nd) ∧ wx = wc)
  case first =>
    cases dot
    · go_wp2_with fail
      go_meet
      exact ⟨rfl, rfl⟩
    · go_wp2_with fail
      go_meet
      exact ⟨rfl, rfl⟩
  case rest =>
  obtain ⟨rfl, rfl⟩ := hcut
  have hD1 : -1000 ≤ (if dot then dp else (nd : Int)) := by split <;> omega
  have hD2 : (if dot then dp else (nd : Int)) ≤ 1000 := by split <;> omega
  generalize (if dot then dp else (nd : Int)) = D at *
  by_cases hend : pm = s.size
  · have hE0 : Hid (eneg = false ∧ rdE (L s) pm pe = 0) := by
      rcases HN.out.tail with ⟨h1, h2, h3⟩ | ⟨h1, h2, _⟩
      · refine ⟨h3, ?_⟩
        unfold rdE
        rw [h2, h1, Nat.sub_self]; rfl
      · rw [len_L] at h2; omega
    have HW : Hid (((s.size : Nat) : Int) = pm) := by unfold Hid; omega
    by_cases hm0 : m = 0
    · have HQ : Hid (xp = 0) := by unfold Hid; rw [HP.out, if_pos hm0]
      subst hm0
      clear HP
      go_wp2_with fail
      rw [Exit.noGoto_ret]
      exact bodyPost_ret (v := .tuple #[.int .u64 0, .int .i64 0, .bool neg, .bool tr, .bool false, .int .i64 pm, .bool true]) (by simp [results, Tryz.results89, go_sem]) rfl ⟨by rw [HRR.out, HXX.out, HQ.out, HW.out] <;> rfl, rfl⟩
    · have HQ : Hid (xp = D - nm) := by unfold Hid; rw [HP.out, if_neg hm0, hE0.out.1, hE0.out.2]; simp
      have hm1 : (((m : Nat) : Int) == 0) = false := by simp [hm0]
      have hm2 : (((m : Nat) : Int) != 0) = true := by simp [hm0]
      clear HP
      go_wp2_with fail
      rw [Exit.noGoto_ret]
      exact bodyPost_ret (v := .tuple #[.int .u64 m, .int .i64 (D - nm), .bool neg, .bool tr, .bool false, .int .i64 pm, .bool true]) (by simp [results, Tryz.results89, go_sem]) rfl ⟨by rw [HRR.out, HXX.out, HQ.out, HW.out] <;> rfl, rfl⟩
  · obtain ⟨h1, h2, h3, h4, h5⟩ : pm < pe ∧ pe < s.size ∧ (((L s).getD pm 0).toNat = 101 ∨ ((L s).getD pm 0).toNat = 69) ∧ (∀ i, pe ≤ i → i < s.size → dg ((L s).getD i 0) = true) ∧
        ((pe = pm + 1 ∧ eneg = false) ∨ (pe = pm + 2 ∧ ((eneg = false ∧ ((L s).getD (pm + 1) 0).toNat = 43) ∨ (eneg = true ∧ ((L s).getD (pm + 1) 0).toNat = 45)))) := by
      rcases HN.out.tail with ⟨h, _⟩ | h
      · rw [len_L] at h; omega
      · exact h
    have HD := hidden h4
    have hgp := get_L s pm (by omega)
    have hgq := get_L s (pm + 1) (by omega)
    have hlow := low_e ⟨((L s).getD pm 0).toNat, UInt8.toNat_lt _⟩ h3
    simp only at hlow
    have cl := Tryz.internal_strconv_lower (((L s).getD pm 0).toNat : Int) wc
    have hdq : pe = pm + 1 → 48 ≤ ((L s).getD (pm + 1) 0).toNat := by
      intro h
      have := h4 pe (Nat.le_refl _) h2
      rw [h] at this
      simp only [dg, decide_eq_true_eq] at this
      exact this.1
    clear h4
    generalize (L s).getD pm 0 = c at *
    generalize (L s).getD (pm + 1) 0 = c1 at *
    go_wp2_with fail
    refine cl.mono ?_
    rintro e w' ⟨rfl, rfl⟩
    clear cl
    go_upto_block 4 with fail
    go_cut [7, 19] from 144 to 178 (fun i es wx => i = .int .i64 pe ∧ es = .int .i64 (if eneg then -1 else 1) ∧ wx = w')
    case first =>
      rcases h5 with ⟨rfl, rfl⟩ | ⟨rfl, ⟨rfl, h43⟩ | ⟨rfl, h45⟩⟩
      · have h48 := hdq rfl
        clear hdq
        go_wp2_with fail
        go_meet
        exact ⟨by simp, rfl, rfl⟩
      · clear hdq
        have e2 : ((pm + 2 : Nat) : Int) = (pm : Int) + 1 + 1 := by omega
        go_wp2_with fail
        go_meet
        exact ⟨by rw [e2], rfl, rfl⟩
      · clear hdq
        have e2 : ((pm + 2 : Nat) : Int) = (pm : Int) + 1 + 1 := by omega
        go_wp2_with fail
        go_meet
        exact ⟨by rw [e2], rfl, rfl⟩
    case rest =>
    obtain ⟨rfl, rfl, rfl⟩ := hcut
    clear hlow h3 h5 hdq hgp hgq
    generalize hes : (if eneg = true then (-1 : Int) else 1) = es at *
    have HES := hidden hes
    clear hes
    have hge := get_L s pe h2
    have hde := HD.out pe (Nat.le_refl _) h2
    simp only [dg, decide_eq_true_eq] at hde
    obtain ⟨hde1, hde2⟩ := hde
    generalize (L s).getD pe 0 = c2 at *
    go_upto_region 67 with fail
    go_cut [194] from 179 to 193 (fun a wx => a = .bool false ∧ wx = wc)
    case first =>
      go_wp2_with fail
      go_meet
      exact ⟨by congr 1; simp; omega, rfl⟩
    case rest =>
    obtain ⟨rfl, rfl⟩ := hcut
    go_wp2_with fail
    go_loop [7, 20, 9] (fun i e us => ∃ p : Nat, pe ≤ p ∧ p ≤ s.size ∧ i = .int .i64 (p : Nat) ∧ e = .int .i64 (foldE (L s) pe (p - pe) : Nat) ∧ us = .bool false) (fun i _ _ => s.size - (intOf i).toNat)
    case atStart => exact ⟨pe, Nat.le_refl _, by omega, rfl, by rw [Nat.sub_self]; rfl, rfl⟩
    case round =>
    obtain ⟨p, hp0, hp, rfl, rfl, rfl⟩ := hrel
    have hlt := foldE_lt (L s) pe (p - pe) (fun j hj => HD.out (pe + j) (by omega) (by omega))
    by_cases hkp : p < s.size
    · have hgk := get_L s p hkp
      have hdk := HD.out p hp0 hkp
      simp only [dg, decide_eq_true_eq] at hdk
      obtain ⟨hk1, hk2⟩ := hdk
      have HS : Hid (foldE (L s) pe (p + 1 - pe) = stepE (foldE (L s) pe (p - pe)) ((L s).getD p 0)) := by
        unfold Hid
        rw [show p + 1 - pe = (p - pe) + 1 by omega]
        show stepE _ ((L s).getD (pe + (p - pe)) 0) = _
        rw [show pe + (p - pe) = p by omega]
      have E1 : Hid (((p + 1 : Nat) : Int) = (p : Int) + 1) := by unfold Hid; omega
      generalize (L s).getD p 0 = c3 at *
      generalize hr' : foldE (L s) pe (p + 1 - pe) = r' at *
      have HR' := hidden hr'
      clear hr'
      generalize foldE (L s) pe (p - pe) = x at *
      by_cases hx : x < 10000
      · have HR : Hid ((r' : Int) = x * 10 + c3.toNat - 48) := by
          unfold Hid; rw [HS.out]; unfold stepE; rw [if_pos hx]; omega
        have HX1 : Box ((x : Int) < 10000) := ⟨by omega⟩
        clear HS hx hlt
        go_upto_region 73 with fail
        have hx1 := HX1.out
        go_wp2_with fail
        go_round
        case rel => exact ⟨p + 1, by omega, by omega, by rw [E1.out], by rw [HR'.out, HR.out], rfl⟩
        case measure => simp [intOf]; omega
      · have HR : Hid (r' = x) := by
          unfold Hid; rw [HS.out]; unfold stepE; rw [if_neg hx]
        have HX1 : Box (¬ (x : Int) < 10000) := ⟨by omega⟩
        clear HS hx hlt
        go_upto_region 73 with fail
        have hx1 := HX1.out
        go_wp2_with fail
        go_round
        case rel => exact ⟨p + 1, by omega, by omega, by rw [E1.out], by rw [HR'.out, HR.out], rfl⟩
        case measure => simp [intOf]; omega
    · obtain rfl : p = s.size := by omega
      have HE : Hid (rdE (L s) pm pe = foldE (L s) pe (s.size - pe)) := rfl
      generalize foldE (L s) pe (s.size - pe) = x at *
      by_cases hm0 : m = 0
      · have HQ : Hid (xp = 0) := by unfold Hid; rw [HP.out, if_pos hm0]
        subst hm0
        clear HP
        cases eneg
        · have hes := HES.out
          simp only [Bool.false_eq_true, if_false] at hes
          subst hes
          go_wp2_with fail
          exact bodyPost_ret (v := .tuple #[.int .u64 0, .int .i64 0, .bool neg, .bool tr, .bool false, .int .i64 s.size, .bool true]) (by simp [results, Tryz.results89, go_sem]) rfl ⟨by rw [HRR.out, HXX.out, HQ.out] <;> rfl, rfl⟩
        · have hes := HES.out
          simp only [if_true] at hes
          subst hes
          have e3 : (x : Int) * -1 = -(x : Int) := by omega
          go_wp2_with fail
          exact bodyPost_ret (v := .tuple #[.int .u64 0, .int .i64 0, .bool neg, .bool tr, .bool false, .int .i64 s.size, .bool true]) (by simp [results, Tryz.results89, go_sem]) rfl ⟨by rw [HRR.out, HXX.out, HQ.out] <;> rfl, rfl⟩
      · have hm1 : (((m : Nat) : Int) == 0) = false := by simp [hm0]
        have hm2 : (((m : Nat) : Int) != 0) = true := by simp [hm0]
        cases eneg
        · have hes := HES.out
          simp only [Bool.false_eq_true, if_false] at hes
          subst hes
          have HQ : Hid (xp = D + x - nm) := by unfold Hid; rw [HP.out, if_neg hm0, HE.out]; simp
          clear HP
          go_wp2_with fail
          exact bodyPost_ret (v := .tuple #[.int .u64 m, .int .i64 (D + x - nm), .bool neg, .bool tr, .bool false, .int .i64 s.size, .bool true]) (by simp [results, Tryz.results89, go_sem]) rfl ⟨by rw [HRR.out, HXX.out, HQ.out] <;> rfl, rfl⟩
        · have hes := HES.out
          simp only [if_true] at hes
          subst hes
          have HQ : Hid (xp = D + -(x : Int) - nm) := by unfold Hid; rw [HP.out, if_neg hm0, HE.out]; simp
          clear HP
          have e3 : (x : Int) * -1 = -(x : Int) := by omega
          go_wp2_with fail
          exact bodyPost_ret (v := .tuple #[.int .u64 m, .int .i64 (D + -(x : Int) - nm), .bool neg, .bool tr, .bool false, .int .i64 s.size, .bool true]) (by simp [results, Tryz.results89, go_sem]) rfl ⟨by rw [HRR.out, HXX.out, HQ.out] <;> rfl, rfl⟩
end Go.Proofs.PlatenFigure
