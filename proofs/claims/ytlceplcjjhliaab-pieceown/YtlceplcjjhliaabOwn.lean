/- PieceOwn is true of any two texts and any byte: what was handed in may be written over, and what is answered, too: the text stays. -/
import Derived.Test.YtlceplcjjhliaabOwnA
namespace Go.Proofs.Ytlceplcjjhliaab.Own
open Go.ChangeShapes Go.WideShapes Go.ChangeAt Go.RowKit Go.Proofs.PlatenPiece
set_option linter.unusedVariables false

set_option maxHeartbeats 400000 in
theorem long (v v2 : Value) (n m : Nat) (l l2 : List Nat) (c : Nat) (w : World) (hv : IsSrc w v n l) (hv2 : IsSrc w v2 m l2) (hn : 100 < n ∨ (n ≤ 100 ∧ 100 < m)) :
    Calls Try.prog 5 #[v, v2, .int .u8 c] w fun e w' => e = .returned (.bool true) ∧ Below w.heap.size w w' := by
  have cs := comes_any w
  obtain ⟨ea, cap, rfl⟩ := IsSrc.len hv
  obtain ⟨eb, cap2, rfl⟩ := IsSrc.len hv2
  clear hv hv2
  rcases hn with hn | ⟨hn, hm⟩
  · have hnz : 100 < (n : Int) := by omega
    go_enter Try.func5, Try.ntmps5
    go_wp2_with fail
    refine cs.mono ?_
    rintro e w1 ⟨rfl, hb⟩
    have cs2 := comes_any w1
    go_wp2_with fail
    refine cs2.mono ?_
    rintro e w2 ⟨rfl, hb2⟩
    go_wp2
    go_ret
    exact ⟨rfl, hb.trans (hb2.mono hb.size)⟩
  · have hnz : ¬ (100 < (n : Int)) := by omega
    have hmz : 100 < (m : Int) := by omega
    go_enter Try.func5, Try.ntmps5
    go_wp2_with fail
    refine cs.mono ?_
    rintro e w1 ⟨rfl, hb⟩
    have cs2 := comes_any w1
    go_wp2_with fail
    refine cs2.mono ?_
    rintro e w2 ⟨rfl, hb2⟩
    go_wp2
    go_ret
    exact ⟨rfl, hb.trans (hb2.mono hb.size)⟩

theorem own_addr {w : World} {B n : Nat} {va : Option Addr} {vc : Nat} {l : List Nat} (h : w.ownsRow B 5 1 (.slice va n vc) l.length (bytesV l)) : 0 < n → ∃ g, va = some ⟨g, 0, none⟩ := by
  intro h0
  rcases h.2 with ⟨e, _⟩ | ⟨g, cap, cur, e, _⟩
  · simp at e; omega
  · simp only [Value.slice.injEq] at e
    exact ⟨g, e.1⟩
theorem own_form {w : World} {B : Nat} {v : Value} {l : List Nat} (h : w.ownsRow B 5 1 v l.length (bytesV l)) : ∃ va vc, v = .slice va l.length vc := by
  rcases h.2 with ⟨rfl, h0⟩ | ⟨g, cap, cur, rfl, _⟩
  · exact ⟨none, 0, by rw [h0]⟩
  · exact ⟨_, _, rfl⟩

set_option maxHeartbeats 8000000 in
set_option maxRecDepth 100000 in
theorem short (ea eb : Option Addr) (cap cap2 : Nat) (l l2 : List Nat) (c : Nat) (w : World) (hl : ∀ x ∈ l, x < 256) (hl2 : ∀ x ∈ l2, x < 256) (hv : PlatenPiece.Src w (.slice ea l.length cap) l) (hv2 : PlatenPiece.Src w (.slice eb l2.length cap2) l2) (hn : l.length ≤ 100) (hm : l2.length ≤ 100) (hc : c < 256) :
    Calls Try.prog 5 #[.slice ea l.length cap, .slice eb l2.length cap2, .int .u8 c] w fun e w' => e = .returned (.bool true) ∧ Below w.heap.size w w' := by
  have cs := comes_any w
  have hnz : ¬ (100 < (l.length : Int)) := by omega
  have hmz : ¬ (100 < (l2.length : Int)) := by omega
  have HV := hidden hv
  have HV2 := hidden hv2
  have HM : Hid (∀ x ∈ l2 ++ l, x < 256) := fun x hx => by
    rcases List.mem_append.1 hx with h | h
    · exact hl2 x h
    · exact hl x h
  clear hv hv2 hl hl2
  go_enter Try.func5, Try.ntmps5
  go_wp2_with fail
  refine cs.mono ?_
  rintro e w1 ⟨rfl, hb1⟩
  have Hb1 := hidden hb1
  have cj1 := join_src _ (.slice none 0 0) l [] w1 (by omega) (by simp) (HV.out.below hb1) (Or.inl ⟨rfl, rfl⟩)
  rw [List.append_nil] at cj1
  clear cs hb1
  go_wp2_with fail
  refine cj1.mono ?_
  rintro e w2 ⟨xa, rfl, hLa⟩
  have Hb2 := hidden (Hb1.out.trans (hLa.2.mono Hb1.out.size))
  have cj2 := join_src _ (.slice none 0 0) l2 [] w2 (by omega) (by simp) (HV2.out.below Hb2.out) (Or.inl ⟨rfl, rfl⟩)
  rw [List.append_nil] at cj2
  obtain ⟨va, vc, rfl⟩ := own_form hLa.1
  have HLa := hidden hLa
  have s12 := hLa.2.size
  clear cj1 hLa
  go_wp2_with fail
  refine cj2.mono ?_
  rintro e w3 ⟨xb, rfl, hLb⟩
  have Hb3 := hidden (Hb2.out.trans (hLb.2.mono Hb2.out.size))
  obtain ⟨vb, vbc, rfl⟩ := own_form hLb.1
  have HLb := hidden hLb
  have s23 := hLb.2.size
  have cn := new_any _ l w3 (HLa.out.src.below hLb.2) (by omega)
  have s01 := Hb1.out.size
  have HAf : Hid (0 < l.length → ∃ g, va = some ⟨g, 0, none⟩) := own_addr HLa.out.1
  have HBf : Hid (0 < l2.length → ∃ g, vb = some ⟨g, 0, none⟩) := own_addr HLb.out.1
  have HAo : Hid (∀ g, Value.ownBlock (.slice va l.length vc) = some g → w1.heap.size ≤ g ∧ g < w2.heap.size) := fun g hg => HLa.out.1.lt g hg
  have HBo : Hid (∀ g, Value.ownBlock (.slice vb l2.length vbc) = some g → w2.heap.size ≤ g ∧ g < w3.heap.size) := fun g hg => HLb.out.1.lt g hg
  have HA3 : Hid (∀ g, Value.ownBlock (.slice va l.length vc) = some g → Blk w3 g l.length) := fun g hg => blk_grown (blk_own HLa.out.1 rfl g hg) (grown_of_below hLb.2) (by simp)
  have HB3 : Hid (∀ g, Value.ownBlock (.slice vb l2.length vbc) = some g → Blk w3 g l2.length) := blk_own HLb.out.1 rfl
  have HSb := hidden HLb.out.src
  clear cj2 hLb
  go_wp2_with fail
  refine cn.mono ?_
  rintro e w4 ⟨T, pv, ps, rfl, hT4, hfl4, hln4, hk4, hg4⟩
  have hsm4 : lenSum ps = l.length := by rw [← flat_len, hfl4]
  have hout : PlatenPiece.Outside (PlatenPiece.Own T pv ps) (.slice vb l2.length vbc) := fun b hb ho => by
    have h1 := (hT4.own_lt ho).1
    have h2 := (HBo.out b hb).2
    omega
  have ci := ins_any w3.heap.size T pv ps _ _ 0 _ l2 w4 hT4 hg4.size (by omega) (by rw [hsm4]) (Nat.zero_le _) (by rw [hsm4]; omega) (HSb.out.below (below_of_grown hg4)) hout (fun p hp => by rw [hk4 p hp]; omega) (by omega)
  rw [hfl4, List.take_zero, List.drop_zero, List.nil_append] at ci
  have Hb4 := hidden (Hb3.out.trans ((below_of_grown hg4).mono Hb3.out.size))
  have s34 := hg4.size
  have HT4 := hidden hT4
  have Hg4 := hidden hg4
  clear cn hT4 hfl4 hk4 hg4 hout hsm4
  go_wp2_with fail
  refine ci.mono ?_
  rintro e w5 ⟨rfl, pv5, ps5, hT5, hfl5, hln5, hK5, hO5⟩
  have hbel5 := hK5.bel HT4.out s34
  have Hb5 := hidden (Hb4.out.trans (hbel5.mono Hb3.out.size))
  have HT5 := hidden hT5
  have HFL := hidden hfl5
  have HSM : Hid (lenSum ps5 = l2.length + l.length) := by unfold Hid; rw [← flat_len, hfl5, List.length_append]
  have hps5 : ps5.length ≤ 3 := by omega
  have HA5 : Hid (∀ g, Value.ownBlock (.slice va l.length vc) = some g → Blk w5 g l.length) := fun g hg => by
    obtain ⟨cur, hh, hn'⟩ := blk_grown (HA3.out g hg) Hg4.out (by simp)
    have h2 := (HAo.out g hg).2
    exact ⟨cur, by rw [hbel5.block g (by omega)]; exact hh, hn'⟩
  have HB5 : Hid (∀ g, Value.ownBlock (.slice vb l2.length vbc) = some g → Blk w5 g l2.length) := fun g hg => by
    obtain ⟨cur, hh, hn'⟩ := blk_grown (HB3.out g hg) Hg4.out (by simp)
    have h2 := (HBo.out g hg).2
    exact ⟨cur, by rw [hbel5.block g (by omega)]; exact hh, hn'⟩
  have s45 := hK5.size
  clear ci hT5 hfl5 hK5 hO5 hbel5 HA3 HB3 hln5 HSb
  go_wp2_with fail
  go_loopw [11] (fun i wr => ∃ k : Nat, k ≤ l.length ∧ i = .int .i64 (k : Nat) ∧ w5.grownBy wr (Value.ownBlock (.slice va l.length vc)) ∧ ∀ g, Value.ownBlock (.slice va l.length vc) = some g → Blk wr g l.length) (fun i _ => l.length - (intOf i).toNat)
  case atStart => exact ⟨0, Nat.zero_le _, rfl, grownBy_refl _ _, HA5.out⟩
  case round =>
    obtain ⟨k, hk, rfl, hgw, hbk⟩ := hrel
    by_cases hlt : k < l.length
    · obtain ⟨g, hg⟩ := HAf.out (by omega)
      have hbk1 := hbk g (by rw [hg]; rfl)
      obtain ⟨u, hu⟩ := hbk1.cell hlt
      have hfz := hbk1.fz k
      have Hgw : Hid (w5.grownBy (wr.setCell ⟨g, k, none⟩ (.int .u8 c)) (Value.ownBlock (.slice va l.length vc))) := by
        unfold Hid
        rw [hg] at hgw ⊢
        exact grown_set hgw
      have Hbk : Hid (∀ g', Value.ownBlock (.slice va l.length vc) = some g' → Blk (wr.setCell ⟨g, k, none⟩ (.int .u8 c)) g' l.length) := fun g' hg' => by
        rw [hg] at hg'
        obtain rfl : g = g' := by simpa [Value.ownBlock] using hg'
        exact hbk1.set k _
      have hkz : (k : Int) < (l.length : Int) := by omega
      have hk0 : (0 : Int) ≤ (k : Int) := by omega
      clear hgw hbk hbk1
      go_wp2
      go_roundw
      case rel => exact ⟨k + 1, by omega, by go_num, Hgw.out, Hbk.out⟩
      case measure => simp [intOf]; omega
    · have hkz : ¬ ((k : Int) < (l.length : Int)) := by omega
      have HG := hidden hgw
      clear hgw hbk
      obtain ⟨w6, hnew⟩ : ∃ x, x = wr := ⟨_, rfl⟩
      subst hnew
      have HT6 := hidden (Tab.opt HT5.out HG.out (fun g hg ho => by
        have h1 := (HT5.out.own_lt ho).1
        have h2 := (HAo.out g hg).2
        omega))
      have Hb6 := hidden (Hb5.out.grown HG.out (by have := Hb5.out.size; omega) (fun j hj => by
        have h2 := (HAo.out j hj).1
        omega))
      have HB6 : Hid (∀ g, Value.ownBlock (.slice vb l2.length vbc) = some g → Blk w6 g l2.length) := fun g hg => by
        refine blk_grown (HB5.out g hg) HG.out (fun e => ?_)
        have h1 := (HAo.out g e).2
        have h2 := (HBo.out g hg).1
        omega
      clear HG HT5 Hb5 HB5 HA5
      go_wp2_with fail
      go_loopw [12] (fun i wr => ∃ k : Nat, k ≤ l2.length ∧ i = .int .i64 (k : Nat) ∧ w6.grownBy wr (Value.ownBlock (.slice vb l2.length vbc)) ∧ ∀ g, Value.ownBlock (.slice vb l2.length vbc) = some g → Blk wr g l2.length) (fun i _ => l2.length - (intOf i).toNat)
      case atStart => exact ⟨0, Nat.zero_le _, rfl, grownBy_refl _ _, HB6.out⟩
      case round =>
        obtain ⟨k, hk, rfl, hgw, hbk⟩ := hrel
        by_cases hlt : k < l2.length
        · obtain ⟨g, hg⟩ := HBf.out (by omega)
          have hbk1 := hbk g (by rw [hg]; rfl)
          obtain ⟨u, hu⟩ := hbk1.cell hlt
          have hfz := hbk1.fz k
          have Hgw : Hid (w6.grownBy (wr.setCell ⟨g, k, none⟩ (.int .u8 c)) (Value.ownBlock (.slice vb l2.length vbc))) := by
            unfold Hid
            rw [hg] at hgw ⊢
            exact grown_set hgw
          have Hbk : Hid (∀ g', Value.ownBlock (.slice vb l2.length vbc) = some g' → Blk (wr.setCell ⟨g, k, none⟩ (.int .u8 c)) g' l2.length) := fun g' hg' => by
            rw [hg] at hg'
            obtain rfl : g = g' := by simpa [Value.ownBlock] using hg'
            exact hbk1.set k _
          have hkz : (k : Int) < (l2.length : Int) := by omega
          have hk0 : (0 : Int) ≤ (k : Int) := by omega
          clear hgw hbk hbk1
          go_wp2
          go_roundw
          case rel => exact ⟨k + 1, by omega, by go_num, Hgw.out, Hbk.out⟩
          case measure => simp [intOf]; omega
        · have hkz : ¬ ((k : Int) < (l2.length : Int)) := by omega
          have HG := hidden hgw
          clear hgw hbk
          obtain ⟨w7, hnew⟩ : ∃ x, x = wr := ⟨_, rfl⟩
          subst hnew
          have HT7 := hidden (Tab.opt HT6.out HG.out (fun g hg ho => by
            have h1 := (HT6.out.own_lt ho).1
            have h2 := (HBo.out g hg).2
            omega))
          have Hb7 := hidden (Hb6.out.grown HG.out (by have := Hb6.out.size; omega) (fun j hj => by
            have h2 := (HBo.out j hj).1
            omega))
          have cb := bytes_tab _ T pv5 ps5 _ _ w7 HT7.out (by omega) (by rw [HSM.out]; omega) (by rw [HSM.out]; omega)
          rw [HFL.out, HSM.out] at cb
          clear HG
          obtain ⟨gl, hgl⟩ : ∃ gl, w7.heap.size = gl := ⟨_, rfl⟩
          rw [hgl] at cb
          have HLOW : Hid (∀ k, PlatenPiece.Own T pv5 ps5 k → k < gl) := fun k hk => by rw [← hgl]; exact (HT7.out.own_lt hk).2
          have hglw : w.heap.size ≤ gl := by rw [← hgl]; exact Hb7.out.size
          clear hgl
          go_wp2_with fail
          refine cb.mono ?_
          rintro e w8 ⟨rfl, h8, hg8⟩
          have HT8a := hidden (HT7.out.grown hg8)
          have Hb8a := hidden (Hb7.out.trans ((below_of_grown hg8).mono Hb7.out.size))
          have HR8 : Hid (Row w8 (.slice (some ⟨gl, 0, none⟩) (l2.length + l.length) (l2.length + l.length)) (l2 ++ l)) := by
            have := row_block (c := l2.length + l.length) h8
            rw [List.length_append] at this
            exact this
          have HBl : Hid (Blk w8 gl (l2.length + l.length)) := ⟨_, h8, by simp [bytesV_len]⟩
          have cj := join_src _ _ l2 l w8 (by omega) (by omega) (HV2.out.below Hb8a.out) (HV.out.below Hb8a.out)
          clear cb h8 hg8
          go_wp2_with fail
          refine cj.mono ?_
          rintro e w8b ⟨xj, rfl, hLj⟩
          have cs2 := same_any _ xj (l2 ++ l) w8b HM.out (by rw [List.length_append]; omega) (HR8.out.below hLj.2) hLj.row
          have Hb8b := hidden (Hb8a.out.trans (hLj.2.mono Hb8a.out.size))
          have HT8b := hidden (HT8a.out.grown (grown_of_below hLj.2))
          have HBl2 := hidden (blk_grown HBl.out (grown_of_below hLj.2) (by simp))
          clear cj hLj
          go_wp2_with fail
          refine cs2.mono ?_
          rintro e w8c ⟨rfl, hb8c⟩
          have Hb8 := hidden (Hb8b.out.trans (hb8c.mono Hb8b.out.size))
          have HT8 := hidden (HT8b.out.grown (grown_of_below hb8c))
          have HBl3 : Hid (∀ g, Value.ownBlock (.slice (some ⟨gl, 0, none⟩) (l2.length + l.length) (l2.length + l.length)) = some g → Blk w8c g (l2.length + l.length)) := fun g hg => by
            obtain rfl : gl = g := by simpa [Value.ownBlock] using hg
            exact blk_grown HBl2.out (grown_of_below hb8c) (by simp)
          have HCf : Hid (0 < l2.length + l.length → ∃ g, (some ⟨gl, 0, none⟩ : Option Addr) = some ⟨g, 0, none⟩) := fun _ => ⟨_, rfl⟩
          clear cs2 hb8c HBl HBl2 HT8a HT8b Hb8a Hb8b HR8 HT7 Hb7
          go_wp2_with fail
          go_loopw [14] (fun i wr => ∃ k : Nat, k ≤ (l2.length + l.length) ∧ i = .int .i64 (k : Nat) ∧ w8c.grownBy wr (Value.ownBlock (.slice (some ⟨gl, 0, none⟩) (l2.length + l.length) (l2.length + l.length))) ∧ ∀ g, Value.ownBlock (.slice (some ⟨gl, 0, none⟩) (l2.length + l.length) (l2.length + l.length)) = some g → Blk wr g (l2.length + l.length)) (fun i _ => (l2.length + l.length) - (intOf i).toNat)
          case atStart => exact ⟨0, Nat.zero_le _, rfl, grownBy_refl _ _, HBl3.out⟩
          case round =>
            obtain ⟨k, hk, rfl, hgw, hbk⟩ := hrel
            by_cases hlt : k < (l2.length + l.length)
            · obtain ⟨g, hg⟩ := HCf.out (by omega)
              have hbk1 := hbk g (by rw [hg]; rfl)
              obtain ⟨u, hu⟩ := hbk1.cell hlt
              have hfz := hbk1.fz k
              have Hgw : Hid (w8c.grownBy (wr.setCell ⟨g, k, none⟩ (.int .u8 c)) (Value.ownBlock (.slice (some ⟨gl, 0, none⟩) (l2.length + l.length) (l2.length + l.length)))) := by
                unfold Hid
                rw [hg] at hgw ⊢
                exact grown_set hgw
              have Hbk : Hid (∀ g', Value.ownBlock (.slice (some ⟨gl, 0, none⟩) (l2.length + l.length) (l2.length + l.length)) = some g' → Blk (wr.setCell ⟨g, k, none⟩ (.int .u8 c)) g' (l2.length + l.length)) := fun g' hg' => by
                rw [hg] at hg'
                obtain rfl : g = g' := by simpa [Value.ownBlock] using hg'
                exact hbk1.set k _
              have hkz : (k : Int) < ((l2.length + l.length) : Int) := by omega
              have hk0 : (0 : Int) ≤ (k : Int) := by omega
              clear hgw hbk hbk1
              go_wp2
              go_roundw
              case rel => exact ⟨k + 1, by omega, by go_num, Hgw.out, Hbk.out⟩
              case measure => simp [intOf]; omega
            · have hkz : ¬ ((k : Int) < ((l2.length + l.length) : Int)) := by omega
              have HG := hidden hgw
              clear hgw hbk
              obtain ⟨w9, hnew⟩ : ∃ x, x = wr := ⟨_, rfl⟩
              subst hnew
              have HT9 := hidden (Tab.opt HT8.out HG.out (fun g hg ho => by
                have h1 := HLOW.out g ho
                have h2 : gl = g := by simpa [Value.ownBlock] using hg
                omega))
              have Hb9 := hidden (Hb8.out.grown HG.out (by have := Hb8.out.size; omega) (fun j hj => by
                have h2 : gl = j := by simpa [Value.ownBlock] using hj
                omega))
              have cb := bytes_tab _ T pv5 ps5 _ _ w9 HT9.out (by omega) (by rw [HSM.out]; omega) (by rw [HSM.out]; omega)
              rw [HFL.out, HSM.out] at cb
              clear HG
              go_wp2_with fail
              refine cb.mono ?_
              rintro e w10 ⟨rfl, h10, hg10⟩
              have Hb10 := hidden (Hb9.out.trans ((below_of_grown hg10).mono Hb9.out.size))
              have HR10 : Hid (Row w10 (.slice (some ⟨w9.heap.size, 0, none⟩) (l2.length + l.length) (l2.length + l.length)) (l2 ++ l)) := by
                have := row_block (c := l2.length + l.length) h10
                rw [List.length_append] at this
                exact this
              have cj := join_src _ _ l2 l w10 (by omega) (by omega) (HV2.out.below Hb10.out) (HV.out.below Hb10.out)
              clear cb h10 hg10
              go_wp2_with fail
              refine cj.mono ?_
              rintro e w11 ⟨xj, rfl, hLj⟩
              have cs2 := same_any _ xj (l2 ++ l) w11 HM.out (by rw [List.length_append]; omega) (HR10.out.below hLj.2) hLj.row
              have Hb11 := hidden (Hb10.out.trans (hLj.2.mono Hb10.out.size))
              clear cj hLj
              go_wp2_with fail
              refine cs2.mono ?_
              rintro e w12 ⟨rfl, hb12⟩
              have Hb12 := hidden (Hb11.out.trans (hb12.mono Hb11.out.size))
              clear cs2 hb12
              go_wp2
              go_ret
              exact ⟨rfl, Hb12.out⟩

theorem law (v : Value) (n : Nat) (l : List Nat) (v2 : Value) (m : Nat) (l2 : List Nat) (c : Nat) (w : World) (hv : IsSrc w v n l) (hv2 : IsSrc w v2 m l2) (hc : c < 256) :
    Calls Try.prog 5 #[v, v2, .int .u8 c] w fun e w' => e = .returned (.bool true) ∧ Below w.heap.size w w' := by
  by_cases hn : 100 < n ∨ (n ≤ 100 ∧ 100 < m)
  · exact long v v2 n m l l2 c w hv hv2 hn
  · obtain ⟨ea, cap, rfl⟩ := IsSrc.len hv
    obtain ⟨eb, cap2, rfl⟩ := IsSrc.len hv2
    obtain ⟨h1, rfl, _, h3⟩ := hv
    obtain ⟨k1, rfl, _, k3⟩ := hv2
    exact short ea eb cap cap2 l l2 c w h1 k1 h3 k3 (by omega) (by omega) hc

set_option maxRecDepth 100000 in
theorem lifted (os : Os) (started : os.Started) (H : Type) (enc : TypeId × Value → H) :
    ReturnsInHanded {} Try.checked os 5 .any (Rows.pieceOwnSpec.pre6 enc Try.prog Try.f5 Rows.pieceOwnRow.domain false) (Rows.pieceOwnSpec.post enc Try.prog Try.f5 false true false false) := by
  refine returnsInHanded_of_change (C := Try.checked) own started (by kernel_rfl) Try.func5
    (ChangeSpec.witness6 (enc := enc) (C := Try.checked) false ⟨#[], #[.slice none 0 0, .slice none 0 0, .int .u8 0], []⟩ 8 (by kernel_rfl) (by kernel_rfl) (by kernel_rfl) (by kernel_rfl)) ?_
  intro W base args ds gs before hval0 hW _ _
  have hval : ∀ (j : Nat) t v, Try.f5.params[j]? = some t → args[j]? = some v → Value.okWide Try.prog W .any base t v := hval0
  have hW' := hW
  obtain ⟨p, q, hA0, hV, rfl, _, _⟩ := hW
  have hA : DataW.TrodAll enc Try.prog W 0 (fun _ => true) true Try.f5.params.toList args.toList ds p := hA0
  rw [Try.params5] at hA hval
  obtain ⟨v0, vs0, d0, ds0, p0, q0, hargs, rfl, rfl, h0, r0⟩ := trodAll_cons hA
  obtain ⟨v1, vs1, d1, ds1, p1, q1, rfl, rfl, rfl, h1, r1⟩ := trodAll_cons r0
  obtain ⟨v2, vs2, d2, ds2, p2, q2, rfl, rfl, rfl, h2, r2⟩ := trodAll_cons r1
  obtain ⟨rfl, rfl, rfl⟩ := trodAll_nil r2
  obtain rfl : args = #[v0, v1, v2] := by cases args; simp_all
  obtain ⟨rfl, rfl⟩ := trodVars_none hV
  have lt0 : ∀ x ∈ p0, x.block < W.heap.size := by obtain ⟨m, hm⟩ := h0; exact DataW.trod_lt m _ _ _ hm
  obtain ⟨n0, f0, g0⟩ := open_src (hval 0 22 v0 rfl rfl) h0
  have lt1 : ∀ x ∈ p1, x.block < W.heap.size := by obtain ⟨m, hm⟩ := h1; exact DataW.trod_lt m _ _ _ hm
  obtain ⟨n1, f1, g1⟩ := open_src (hval 1 22 v1 rfl rfl) h1
  obtain ⟨x2, rfl, rfl, rfl, w2⟩ := open_int Try.underlying5 (hval 2 5 v2 rfl rfl) h2
  have b2 : 0 ≤ x2 ∧ x2 ≤ 255 := by simpa [Lit.wf, IntKind.min, IntKind.max, IntKind.signed, IntKind.bits] using w2
  obtain ⟨c2, rfl⟩ := Int.eq_ofNat_of_zero_le b2.1
  clear hA0 hval0
  simp only [List.append_nil] at hW'
  refine (law v0 n0 f0 v1 n1 f1 c2 W g0 g1 (by omega)).mono fun e W' ⟨he, bel⟩ => ?_
  subst he
  exact ⟨_, rfl, _, _, _, [], _, [], hW', trodAll_mk1 (shut_bool Try.underlying4 _), (trodAll_cons_mk (Below.trod laidOut (by kernel_rfl) (of_decide_eq_true (by kernel_rfl)) h0 bel lt0) (trodAll_cons_mk (Below.trod laidOut (by kernel_rfl) (of_decide_eq_true (by kernel_rfl)) h1 bel lt1) (trodAll_cons_mk (shut_int Try.underlying5 w2) trodAll_mk0))), rfl, bel.frame _, fun h => by cases h⟩

theorem said : Rows.PieceOwnSaid :=
  OpenClaim.holds_of_wide 5 Try.f5 rfl rfl rfl rfl rfl rfl rfl ⟨rfl, rfl, rfl, rfl, rfl⟩ rfl rfl rfl rfl rfl (by kernel_rfl) Try.func5 (by kernel_rfl)
    (of_decide_eq_true (by kernel_rfl)) (by unfold Func.isWrapper; first | (rw [if_pos (by decide +kernel)]; kernel_rfl) | (rw [if_neg (by decide +kernel)]; exact ⟨rfl, rfl⟩))
    (fun os started H enc _ => lifted os started H enc)
#print axioms said
end Go.Proofs.Ytlceplcjjhliaab.Own
