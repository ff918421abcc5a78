/- What layout.Lay comes to. -/
import Derived.Test.YtaefnlknendapaaLyC
import Derived.Test.YtaefnlknendapaaLyJ
namespace Go.Proofs.PlatenLayout
open Go Go.RowKit Go.Shelf
set_option linter.unusedVariables false
set_option maxRecDepth 100000

/-- The text that is laid out, or that it is too much. -/
def LayRes (o : Option (List Nat)) (e : Ending) : Prop := e = .returned (.tuple #[.string (match o with | some q => str q | none => ByteArray.empty), .int .i64 (match o with | some _ => 0 | none => 4)])
theorem made_groups : (madeCells #[Value.int .i64 0, Value.bool false, Value.bool false] 3).toList = rowG [⟨false, false, 0⟩] := by kernel_rfl
theorem pm_start {w w1 : World} {wd : Int} (hr : w1.ownsRow w.heap.size 78 3 (.slice (some ⟨w.heap.size, 0, none⟩) 1 1) 1 (rowG [⟨false, false, 0⟩])) (hg : w.grownBy w1 none) {w2 : World}
    (hb : Below (w1.alloc (.cells #[.pointer none, .slice none 0 0, .int .i64 wd, .int .i64 0, .slice (some ⟨w.heap.size, 0, none⟩) 1 1] 59)).heap.size (w1.alloc (.cells #[.pointer none, .slice none 0 0, .int .i64 wd, .int .i64 0, .slice (some ⟨w.heap.size, 0, none⟩) 1 1] 59)) w2) :
    PM w.heap.size w1.heap.size w2 wd s0 w2 := by
  have hw := hg.size
  have hz := hb.size
  rw [World.size_alloc] at hz
  refine ⟨.pointer none, .slice none 0 0, .slice (some ⟨w.heap.size, 0, none⟩) 1 1, ⟨hw, by omega, ?_, Or.inl rfl, World.ownsRow_nil _ _ _ _, ?_, Below.refl _ _, fun _ => rfl, fun _ _ a => a⟩⟩
  · rw [hb.block _ (by simp)]
    exact heap_alloc_new _ _
  · exact row_grown (hr.alloc _) (grown_below hb) (by simp)

set_option maxHeartbeats 4000000 in
theorem lay_any {v : Value} {l : List It} {w : World} (h : IsItems w v l) (ok : OkL l) (wd : Int) (hwd : -4000000000 ≤ wd ∧ wd ≤ 4000000000) :
    Calls Try.prog 15 #[v, .int .i64 wd] w fun e w' => LayRes (lay wd l s0) e ∧ Below w.heap.size w w' := by
  obtain ⟨i78, hi78, hz78, hy78, hb78⟩ := info_parts info78
  obtain ⟨a, cap, rfl⟩ := h.val
  have hl1 := ok.1
  have HL := hidden h
  have Hok := hidden ok
  have hby : i78.bytes * 1 ≤ 281474976710656 := by rw [hb78]; omega
  have hml : 1 ≤ maxLen := by unfold maxLen; omega
  clear h ok
  obtain ⟨n, hn⟩ : ∃ n, l.length = n := ⟨_, rfl⟩
  rw [hn] at hl1 ⊢
  have Hn := hidden hn
  clear hn
  go_enter Try.func15, Try.ntmps15
  go_wp2_with (at_make; refine wpList_make_full _ rfl _ _ _ rfl w.heap.size 78 i78 (.agg #[.int .i64 0, .bool false, .bool false]) 3 Try.underlying54 hi78 hz78 hy78 .i64 .i64 (1 : Int) (1 : Int) 1 rfl rfl rfl rfl hby hml (Nat.le_refl _) ?_)
  intro w1 hr hg
  have hr2 : w1.ownsRow w.heap.size 78 3 (.slice (some ⟨w.heap.size, 0, none⟩) 1 1) 1 (rowG [⟨false, false, 0⟩]) := made_groups ▸ hr
  have HS := hidden (fun w2 => pm_start (wd := wd) hr2 hg (w2 := w2))
  have hbW : Below w.heap.size w (w1.alloc (.cells #[.pointer none, .slice none 0 0, .int .i64 wd, .int .i64 0, .slice (some ⟨w.heap.size, 0, none⟩) 1 1] 59)) := ((Below.refl _ _).grown hg (Nat.le_refl _) (by simp)).alloc hg.size _
  have hIW := HL.out.below hbW
  have cs := sizes_any hIW Hok.out
  rw [Hn.out] at cs
  have HbW := hidden hbW
  clear hr hr2 hg hby hml hbW hIW
  go_wp2_with fail
  refine cs.mono ?_
  clear cs
  rintro e w2 ⟨u, rfl, hz2, hb2⟩
  have hp2 := HS.out w2 hb2
  have HB2 := hidden (HbW.out.trans (hb2.mono HbW.out.size))
  obtain ⟨za, zc, rfl, _⟩ := id hz2
  have HZ2 := hidden hz2
  rw [szs_len, Hn.out]
  have HP2 := hidden hp2
  clear hz2 hp2 hb2 HS HbW
  go_wp2_with fail
  generalize w1.heap.size = KB at *
  go_loopw [15] (fun i wr => ∃ (k : Nat) (s : Ly), k ≤ n ∧ i = .int .i64 (k : Nat) ∧ LI k s ∧ s.p.length ≤ most ∧ lay wd (l.drop k) s = lay wd l s0 ∧ PM w.heap.size KB w2 wd s wr) (fun i _ => n - (intOf i).toNat)
  case atStart => exact ⟨0, s0, Nat.zero_le _, rfl, li_start, Nat.zero_le _, rfl, HP2.out⟩
  case round =>
    obtain ⟨k, s, hk, rfl, hli, hm, hlay, hp⟩ := hrel
    by_cases hlt : k < n
    · have hll : k < l.length := by rw [Hn.out]; exact hlt
      obtain ⟨x, hx⟩ : ∃ x, l[k] = x := ⟨_, rfl⟩
      have hdr : l.drop k = x :: l.drop (k + 1) := by rw [← hx]; exact List.drop_eq_getElem_cons hll
      have hox : OkIt x := Hok.out.2 x (by rw [← hx]; exact List.getElem_mem hll)
      obtain ⟨p0, b0, g0, hpr⟩ := id hp
      have hbr := HB2.out.trans hpr.bel
      obtain ⟨b, off, cp, hv, hcap, x0, x1, x2, x3, x4, x5⟩ := (HL.out.below hbr).at' hll
      obtain ⟨zg, zc', hzv, hzc, zz⟩ := (HZ2.out.of hpr.k3).at' (szs_get l hll)
      rw [hx] at x0 x1 x2 x3 x4 x5
      rw [Hn.out] at hv hcap
      injection hv with hv1 hv2 hv3
      subst hv1 hv3
      injection hzv with hz1 hz2 hz3
      subst hz1 hz3
      rw [szs_len, Hn.out] at hzc
      have hsz := Hok.out.size k
      have hind := hli.ind s.g (by simp)
      have hgn := hli.gn
      have hc0 := hli.c0
      have hcp := hli.cp
      have hm' : s.p.length ≤ 65536 := hm
      have ci := item_any hp x hox (size (l.drop k)) (by omega) (by omega) (by omega) (by omega) (by omega)
      have hlen := item_len (w := wd) (s := s) (sz := size (l.drop k)) hox
      have Heq : Hid ((stepL wd s x (l.drop (k + 1))).p.length ≤ most → itemS wd s x (size (l.drop k)) = stepL wd s x (l.drop (k + 1))) := fun q => by rw [hdr]; exact item_eq q
      have Hbig : Hid (most < (stepL wd s x (l.drop (k + 1))).p.length → most < (itemS wd s x (size (l.drop k))).p.length) := fun q => by rw [hdr]; exact item_big q
      have HL2 : Hid (lay wd l s0 = if most < (stepL wd s x (l.drop (k + 1))).p.length then none else lay wd (l.drop (k + 1)) (stepL wd s x (l.drop (k + 1)))) := by
        unfold Hid
        rw [← hlay, hdr]
        rfl
      have Hst : Hid ((stepL wd s x (l.drop (k + 1))).p.length ≤ most → LI (k + 1) (stepL wd s x (l.drop (k + 1)))) := fun q => li_step hli hox hm q
      have hlz : (k : Int) < (n : Int) := by omega
      clear hp hpr hbr hx hdr hox hli hlay hm hind hgn hc0 hcp hv2 hz2
      generalize size (l.drop k) = sz at *
      generalize hS : stepL wd s x (l.drop (k + 1)) = S1 at *
      clear hS
      go_wp2_with fail
      refine ci.mono ?_
      clear ci
      rintro e w3 ⟨rfl, h3⟩
      obtain ⟨p3, b3, g3, hpr3⟩ := id h3
      have cl := len_any hpr3
      have H3 := hidden h3
      clear h3 hpr3 x0 x1 x2 x3 x4 x5 zz
      by_cases hbig : most < S1.p.length
      · have hb2 : 65536 < (itemS wd s x sz).p.length := Hbig.out hbig
        generalize hI : (itemS wd s x sz).p.length = m at *
        have hmz : (65536 : Int) < (m : Int) := by omega
        obtain ⟨p4, b4, g4, hpr4⟩ := H3.out
        have HB4 := hidden (HB2.out.trans hpr4.bel)
        have HN : Hid (lay wd l s0 = none) := by unfold Hid; rw [HL2.out, if_pos hbig]
        clear hpr4 hb2 hbig hI
        go_wp2_with fail
        refine cl.mono ?_
        clear cl
        rintro e w4 ⟨rfl, rfl⟩
        go_wp2_with fail
        go_ret2
        refine ⟨?_, HB4.out⟩
        rw [HN.out]
        rfl
      · have hle : S1.p.length ≤ most := Nat.le_of_not_lt hbig
        have hE := Heq.out hle
        rw [hE] at cl H3
        have hmz : ¬ ((65536 : Int) < (S1.p.length : Int)) := by have : S1.p.length ≤ 65536 := hle; omega
        have HN : Hid (lay wd (l.drop (k + 1)) S1 = lay wd l s0) := by unfold Hid; rw [HL2.out, if_neg hbig]
        have HI := hidden (Hst.out hle)
        have Hle := hidden hle
        clear hE hbig hle
        generalize hq : S1.p.length = m at *
        have Hq := hidden hq
        clear hq
        go_wp2_with fail
        refine cl.mono ?_
        clear cl
        rintro e w4 ⟨rfl, rfl⟩
        go_wp2_with fail
        go_roundw
        case rel => exact ⟨k + 1, S1, hlt, by go_num, HI.out, by rw [Hq.out]; exact Hle.out, HN.out, H3.out⟩
        case measure => simp [intOf]; omega
    · have hkn : k = n := by omega
      have hlz : ¬ ((k : Int) < (n : Int)) := by omega
      have hd : l.drop k = [] := by rw [List.drop_eq_nil_iff, Hn.out]; omega
      rw [hd] at hlay
      have HN : Hid (lay wd l s0 = some s.p) := hlay.symm
      obtain ⟨p0, b0, g0, hpr⟩ := hp
      have hm' : s.p.length ≤ 65536 := hm
      have cS := string_any hpr hli.byt (by omega)
      clear hpr hli hlay hm hd hkn hlt
      go_wp2_with fail
      refine cS.mono ?_
      clear cS
      rintro e w4 ⟨rfl, hb4⟩
      have HB4 := hidden (HB2.out.trans hb4)
      clear hb4
      go_wp2_with fail
      go_ret2
      refine ⟨?_, HB4.out⟩
      rw [HN.out]
      rfl
end Go.Proofs.PlatenLayout
