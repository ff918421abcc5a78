/- The laws' maker: a value, or an expression. -/
import Derived.Test.YtfakfgmengcndaaKP
namespace Go.Proofs.PlatenTree
open Go Go.RowKit Go.Shelf
open Go.Proofs.PlatenLayout (str str_size)
set_option linter.unusedVariables false
set_option maxRecDepth 100000

/-- The maker with a node at hand in a box. -/
def OS (w0 : World) (M : Nat) (s : Bool) (X k n : Nat) (w : World) (l : List Nd) (out : List Nat) (d : Nat) : Prop :=
  MK w0 M s w l out d ∧ w.heap[X]? = some (.cells #[.int .u8 (k : Nat), .int .u8 (n : Nat)] 82 (0, 0))
theorem box_c {w : World} {X k n : Nat} (h : w.heap[X]? = some (.cells #[.int .u8 (k : Nat), .int .u8 (n : Nat)] 82 (0, 0))) : w.cell? ⟨X, 0, none⟩ = some (.int .u8 (k : Nat)) ∧ w.cell? ⟨X, 1, none⟩ = some (.int .u8 (n : Nat)) := by
  refine ⟨?_, ?_⟩ <;> (unfold World.cell?; rw [h]; rfl)
def g1 (x : Nd) : List Nat := if 12 ≤ x.n % 16 then [10, 32] else []
def g2 (s : Bool) (x : Nd) : List Nat := if s = true ∧ x.kind % 8 = 7 then [44, 64] else []
def g3 (s : Bool) (x : Nd) : List Nat := if s = true ∧ x.kind % 8 = 6 then [39, 32] else []
theorem gap_eq (s : Bool) (x : Nd) : gap s x = g1 x ++ (g2 s x ++ g3 s x) := rfl
theorem g1_len (x : Nd) : (g1 x).length ≤ 2 := by unfold g1; split <;> simp
theorem g2_len (s : Bool) (x : Nd) : (g2 s x).length ≤ 2 := by unfold g2; split <;> simp
theorem g3_len (s : Bool) (x : Nd) : (g3 s x).length ≤ 2 := by unfold g3; split <;> simp
theorem g2_f (x : Nd) : g2 false x = [] := by unfold g2; simp
theorem g3_f (x : Nd) : g3 false x = [] := by unfold g3; simp
set_option maxHeartbeats 4000000 in
theorem atom0_true {w0 w : World} {M : Nat} {l : List Nd} {out : List Nat} {d k n : Nat} (h : MK w0 M true w l out d) (hb : out.length ≤ 900000) (hxl : hd l = ⟨k, n⟩) (hkn : k < 256 ∧ n < 256) (hk : k % 4 = 0) :
    Calls Try.prog 30 #[.pointer (some ⟨M, 0, none⟩)] w fun e w' => e = .returned (.tuple #[]) ∧ MK w0 M true w' l.tail ((((out ++ g1 ⟨k, n⟩) ++ g2 true ⟨k, n⟩) ++ g3 true ⟨k, n⟩) ++ nameB n) d := by
  have cn := next_any h
  rw [hxl] at cn
  simp only at cn
  have HL := g1_len ⟨k, n⟩
  have HL2 := g2_len true ⟨k, n⟩
  have HL3 := g3_len true ⟨k, n⟩
  obtain ⟨l', hl'⟩ : ∃ l', l.tail = l' := ⟨_, rfl⟩
  rw [hl'] at cn ⊢
  clear h hl' hxl
  have HKK := hidden hk
  clear hk
  go_enter Try.func30, Try.ntmps30
  go_wp2_with fail
  refine cn.mono ?_
  clear cn
  rintro e w1 ⟨rfl, lv, ov, hm⟩
  have hbx : (w1.alloc (.cells #[.int .u8 (k : Nat), .int .u8 (n : Nat)] 82)).heap[w1.heap.size]? = some (.cells #[.int .u8 (k : Nat), .int .u8 (n : Nat)] 82 (0, 0)) := heap_alloc_new _ _
  obtain ⟨x0, x1⟩ := box_c hbx
  have ha := hm.alloc (.cells #[.int .u8 (k : Nat), .int .u8 (n : Nat)] 82)
  obtain ⟨c0, c1, c2, c3⟩ := ha.c
  have HA := hidden ha
  have HX := hidden hbx
  clear ha hbx hm
  go_upto_if 8 with fail
  generalize w1.alloc (Obj.cells #[Value.int .u8 (k : Nat), Value.int .u8 (n : Nat)] 82) = wa at *
  generalize w1.heap.size = X at *
  go_cut [] from 5 to 17 (fun wx => OS w0 M true X k n wx l' (out ++ g1 ⟨k, n⟩) d)
  case first =>
    by_cases q : 12 ≤ n % 16
    · have e : g1 ⟨k, n⟩ = [10, 32] := if_pos q
      have z := (show 12 ≤ (n : Int) % 16 by omega)
      have E := hidden e
      clear q e
      go_wp2_with (at_builtin; refine app_mv rfl (.tmp 13) (.tmp 14) rfl (HA.out.alloc _) rfl ⟨wa.heap.size, 0, none⟩ 2 2 [10, 32] rfl rfl (bytes_new wa [10, 32] rfl) (by simp; omega) ?_)
      intro v' w' ho hg
      have hK := (HA.out.alloc (.cells #[.int .u8 10, .int .u8 32] 5)).keep hg.out (v' := v') (show (wa.alloc (.cells #[.int .u8 10, .int .u8 32] 5)).heap[X]? = _ from (Below.heap_alloc wa _ X (Array.getElem?_eq_some_iff.1 HX.out).1).trans HX.out)
      obtain ⟨ua, uc, rfl⟩ := PlatenLayout.row_slice ho.out
      have HK := hidden hK.2
      obtain ⟨y0, y1⟩ := box_c hK.1
      have H2 := hidden ((HA.out.alloc (.cells #[.int .u8 10, .int .u8 32] 5)).push (x := [10, 32]) ho.out hg.out (by simp; omega))
      obtain ⟨j0, j1, j2, j3, q2, q3⟩ := (HA.out.alloc (.cells #[.int .u8 10, .int .u8 32] 5)).after hg.out
      clear ho hg hK
      go_wp2_with fail
      go_meet
      rw [E.out]
      exact ⟨⟨_, _, H2.out⟩, HK.out⟩
    · have e : g1 ⟨k, n⟩ = [] := if_neg q
      have z := (show ¬ 12 ≤ (n : Int) % 16 by omega)
      have E := hidden e
      clear q e
      go_wp2_with fail
      go_meet
      rw [E.out, List.append_nil]
      exact ⟨⟨_, _, HA.out⟩, HX.out⟩
  case rest =>
  obtain ⟨⟨lv, ov, hm⟩, hbx⟩ := hcut
  clear HA HX c0 c1 c2 c3 x0 x1
  obtain ⟨o1, he⟩ : ∃ o, out ++ g1 ⟨k, n⟩ = o := ⟨_, rfl⟩
  have hlo1 : o1.length ≤ out.length + 2 := by rw [← he, List.length_append]; omega
  rw [he] at hm
  have HOo1 := hidden he
  clear he
  obtain ⟨x0, x1⟩ := box_c hbx
  obtain ⟨c0, c1, c2, c3⟩ := hm.c
  have HA := hidden hm
  have HX := hidden hbx
  clear hm hbx
  go_upto_if 27 with fail
  go_cut [] from 18 to 35 (fun wx => OS w0 M true X k n wx l' (o1 ++ g2 true ⟨k, n⟩) d)
  case first =>
    by_cases q : k % 8 = 7
    · have e : g2 true ⟨k, n⟩ = [44, 64] := if_pos ⟨rfl, q⟩
      have z := (show ((k : Int) % 8 == 7) = true by simp <;> omega)
      have E := hidden e
      clear q e
      go_wp2_with (at_builtin; refine apps_mv rfl (.tmp 32) _ rfl HA.out rfl _ [44, 64] rfl rfl (by decide) (by simp; omega) ?_)
      intro v' w' ho hg
      have hK := HA.out.keep hg.out (v' := v') HX.out
      obtain ⟨ua, uc, rfl⟩ := PlatenLayout.row_slice ho.out
      have HK := hidden hK.2
      obtain ⟨y0, y1⟩ := box_c hK.1
      have H2 := hidden (HA.out.push (x := [44, 64]) ho.out hg.out (by simp; omega))
      obtain ⟨j0, j1, j2, j3, q2, q3⟩ := HA.out.after hg.out
      clear ho hg hK
      go_wp2_with fail
      go_meet
      rw [E.out]
      exact ⟨⟨_, _, H2.out⟩, HK.out⟩
    · have e : g2 true ⟨k, n⟩ = [] := if_neg (fun h => q h.2)
      have z := (show ((k : Int) % 8 == 7) = false by simp <;> omega)
      have E := hidden e
      clear q e
      go_wp2_with fail
      go_meet
      rw [E.out, List.append_nil]
      exact ⟨⟨_, _, HA.out⟩, HX.out⟩
  case rest =>
  obtain ⟨⟨lv, ov, hm⟩, hbx⟩ := hcut
  clear HA HX c0 c1 c2 c3 x0 x1
  obtain ⟨o2, he⟩ : ∃ o, o1 ++ g2 true ⟨k, n⟩ = o := ⟨_, rfl⟩
  have hlo2 : o2.length ≤ o1.length + 2 := by rw [← he, List.length_append]; omega
  rw [he] at hm
  have HOo2 := hidden he
  clear he
  obtain ⟨x0, x1⟩ := box_c hbx
  obtain ⟨c0, c1, c2, c3⟩ := hm.c
  have HA := hidden hm
  have HX := hidden hbx
  clear hm hbx
  go_upto_if 45 with fail
  go_cut [] from 36 to 54 (fun wx => OS w0 M true X k n wx l' (o2 ++ g3 true ⟨k, n⟩) d)
  case first =>
    by_cases q : k % 8 = 6
    · have e : g3 true ⟨k, n⟩ = [39, 32] := if_pos ⟨rfl, q⟩
      have z := (show ((k : Int) % 8 == 6) = true by simp <;> omega)
      have E := hidden e
      clear q e
      go_wp2_with (at_builtin; refine app_mv rfl (.tmp 50) (.tmp 51) rfl (HA.out.alloc _) rfl ⟨wc.heap.size, 0, none⟩ 2 2 [39, 32] rfl rfl (bytes_new wc [39, 32] rfl) (by simp; omega) ?_)
      intro v' w' ho hg
      have hK := (HA.out.alloc (.cells #[.int .u8 39, .int .u8 32] 5)).keep hg.out (v' := v') (show (wc.alloc (.cells #[.int .u8 39, .int .u8 32] 5)).heap[X]? = _ from (Below.heap_alloc wc _ X (Array.getElem?_eq_some_iff.1 HX.out).1).trans HX.out)
      obtain ⟨ua, uc, rfl⟩ := PlatenLayout.row_slice ho.out
      have HK := hidden hK.2
      obtain ⟨y0, y1⟩ := box_c hK.1
      have H2 := hidden ((HA.out.alloc (.cells #[.int .u8 39, .int .u8 32] 5)).push (x := [39, 32]) ho.out hg.out (by simp; omega))
      obtain ⟨j0, j1, j2, j3, q2, q3⟩ := (HA.out.alloc (.cells #[.int .u8 39, .int .u8 32] 5)).after hg.out
      clear ho hg hK
      go_wp2_with fail
      go_meet
      rw [E.out]
      exact ⟨⟨_, _, H2.out⟩, HK.out⟩
    · have e : g3 true ⟨k, n⟩ = [] := if_neg (fun h => q h.2)
      have z := (show ((k : Int) % 8 == 6) = false by simp <;> omega)
      have E := hidden e
      clear q e
      go_wp2_with fail
      go_meet
      rw [E.out, List.append_nil]
      exact ⟨⟨_, _, HA.out⟩, HX.out⟩
  case rest =>
  obtain ⟨⟨lv, ov, hm⟩, hbx⟩ := hcut
  clear HA HX c0 c1 c2 c3 x0 x1
  obtain ⟨o3, he⟩ : ∃ o, o2 ++ g3 true ⟨k, n⟩ = o := ⟨_, rfl⟩
  have hlo3 : o3.length ≤ o2.length + 2 := by rw [← he, List.length_append]; omega
  rw [he] at hm
  have HOo3 := hidden he
  clear he
  obtain ⟨x0, x1⟩ := box_c hbx
  obtain ⟨c0, c1, c2, c3⟩ := hm.c
  have HA := hidden hm
  have HX := hidden hbx
  clear hm hbx
  have hk := HKK.out
  have z4 : ((k : Int) % 4 == 0) = true := by simp; omega
  clear hk
  go_wp2_with fail
  refine (name_any n hkn.2 ⟨_, _, HA.out⟩ (by omega)).mono ?_
  rintro e w9 ⟨rfl, h9⟩
  have H9 := hidden h9
  clear h9 HA HX
  go_wp2_with fail
  go_end0
  rw [HOo1.out, HOo2.out, HOo3.out]
  exact ⟨rfl, H9.out⟩
set_option maxHeartbeats 4000000 in
theorem atom9_true {w0 w : World} {M : Nat} {l : List Nd} {out : List Nat} {d k n : Nat} (h : MK w0 M true w l out d) (hb : out.length ≤ 900000) (hxl : hd l = ⟨k, n⟩) (hkn : k < 256 ∧ n < 256) (hk : ¬ k % 4 = 0) (hd9 : 8 < d) :
    Calls Try.prog 30 #[.pointer (some ⟨M, 0, none⟩)] w fun e w' => e = .returned (.tuple #[]) ∧ MK w0 M true w' l.tail ((((out ++ g1 ⟨k, n⟩) ++ g2 true ⟨k, n⟩) ++ g3 true ⟨k, n⟩) ++ nameB n) d := by
  have cn := next_any h
  rw [hxl] at cn
  simp only at cn
  have HL := g1_len ⟨k, n⟩
  have HL2 := g2_len true ⟨k, n⟩
  have HL3 := g3_len true ⟨k, n⟩
  obtain ⟨l', hl'⟩ : ∃ l', l.tail = l' := ⟨_, rfl⟩
  rw [hl'] at cn ⊢
  clear h hl' hxl
  have HKK := hidden hk
  clear hk
  go_enter Try.func30, Try.ntmps30
  go_wp2_with fail
  refine cn.mono ?_
  clear cn
  rintro e w1 ⟨rfl, lv, ov, hm⟩
  have hbx : (w1.alloc (.cells #[.int .u8 (k : Nat), .int .u8 (n : Nat)] 82)).heap[w1.heap.size]? = some (.cells #[.int .u8 (k : Nat), .int .u8 (n : Nat)] 82 (0, 0)) := heap_alloc_new _ _
  obtain ⟨x0, x1⟩ := box_c hbx
  have ha := hm.alloc (.cells #[.int .u8 (k : Nat), .int .u8 (n : Nat)] 82)
  obtain ⟨c0, c1, c2, c3⟩ := ha.c
  have HA := hidden ha
  have HX := hidden hbx
  clear ha hbx hm
  go_upto_if 8 with fail
  generalize w1.alloc (Obj.cells #[Value.int .u8 (k : Nat), Value.int .u8 (n : Nat)] 82) = wa at *
  generalize w1.heap.size = X at *
  go_cut [] from 5 to 17 (fun wx => OS w0 M true X k n wx l' (out ++ g1 ⟨k, n⟩) d)
  case first =>
    by_cases q : 12 ≤ n % 16
    · have e : g1 ⟨k, n⟩ = [10, 32] := if_pos q
      have z := (show 12 ≤ (n : Int) % 16 by omega)
      have E := hidden e
      clear q e
      go_wp2_with (at_builtin; refine app_mv rfl (.tmp 13) (.tmp 14) rfl (HA.out.alloc _) rfl ⟨wa.heap.size, 0, none⟩ 2 2 [10, 32] rfl rfl (bytes_new wa [10, 32] rfl) (by simp; omega) ?_)
      intro v' w' ho hg
      have hK := (HA.out.alloc (.cells #[.int .u8 10, .int .u8 32] 5)).keep hg.out (v' := v') (show (wa.alloc (.cells #[.int .u8 10, .int .u8 32] 5)).heap[X]? = _ from (Below.heap_alloc wa _ X (Array.getElem?_eq_some_iff.1 HX.out).1).trans HX.out)
      obtain ⟨ua, uc, rfl⟩ := PlatenLayout.row_slice ho.out
      have HK := hidden hK.2
      obtain ⟨y0, y1⟩ := box_c hK.1
      have H2 := hidden ((HA.out.alloc (.cells #[.int .u8 10, .int .u8 32] 5)).push (x := [10, 32]) ho.out hg.out (by simp; omega))
      obtain ⟨j0, j1, j2, j3, q2, q3⟩ := (HA.out.alloc (.cells #[.int .u8 10, .int .u8 32] 5)).after hg.out
      clear ho hg hK
      go_wp2_with fail
      go_meet
      rw [E.out]
      exact ⟨⟨_, _, H2.out⟩, HK.out⟩
    · have e : g1 ⟨k, n⟩ = [] := if_neg q
      have z := (show ¬ 12 ≤ (n : Int) % 16 by omega)
      have E := hidden e
      clear q e
      go_wp2_with fail
      go_meet
      rw [E.out, List.append_nil]
      exact ⟨⟨_, _, HA.out⟩, HX.out⟩
  case rest =>
  obtain ⟨⟨lv, ov, hm⟩, hbx⟩ := hcut
  clear HA HX c0 c1 c2 c3 x0 x1
  obtain ⟨o1, he⟩ : ∃ o, out ++ g1 ⟨k, n⟩ = o := ⟨_, rfl⟩
  have hlo1 : o1.length ≤ out.length + 2 := by rw [← he, List.length_append]; omega
  rw [he] at hm
  have HOo1 := hidden he
  clear he
  obtain ⟨x0, x1⟩ := box_c hbx
  obtain ⟨c0, c1, c2, c3⟩ := hm.c
  have HA := hidden hm
  have HX := hidden hbx
  clear hm hbx
  go_upto_if 27 with fail
  go_cut [] from 18 to 35 (fun wx => OS w0 M true X k n wx l' (o1 ++ g2 true ⟨k, n⟩) d)
  case first =>
    by_cases q : k % 8 = 7
    · have e : g2 true ⟨k, n⟩ = [44, 64] := if_pos ⟨rfl, q⟩
      have z := (show ((k : Int) % 8 == 7) = true by simp <;> omega)
      have E := hidden e
      clear q e
      go_wp2_with (at_builtin; refine apps_mv rfl (.tmp 32) _ rfl HA.out rfl _ [44, 64] rfl rfl (by decide) (by simp; omega) ?_)
      intro v' w' ho hg
      have hK := HA.out.keep hg.out (v' := v') HX.out
      obtain ⟨ua, uc, rfl⟩ := PlatenLayout.row_slice ho.out
      have HK := hidden hK.2
      obtain ⟨y0, y1⟩ := box_c hK.1
      have H2 := hidden (HA.out.push (x := [44, 64]) ho.out hg.out (by simp; omega))
      obtain ⟨j0, j1, j2, j3, q2, q3⟩ := HA.out.after hg.out
      clear ho hg hK
      go_wp2_with fail
      go_meet
      rw [E.out]
      exact ⟨⟨_, _, H2.out⟩, HK.out⟩
    · have e : g2 true ⟨k, n⟩ = [] := if_neg (fun h => q h.2)
      have z := (show ((k : Int) % 8 == 7) = false by simp <;> omega)
      have E := hidden e
      clear q e
      go_wp2_with fail
      go_meet
      rw [E.out, List.append_nil]
      exact ⟨⟨_, _, HA.out⟩, HX.out⟩
  case rest =>
  obtain ⟨⟨lv, ov, hm⟩, hbx⟩ := hcut
  clear HA HX c0 c1 c2 c3 x0 x1
  obtain ⟨o2, he⟩ : ∃ o, o1 ++ g2 true ⟨k, n⟩ = o := ⟨_, rfl⟩
  have hlo2 : o2.length ≤ o1.length + 2 := by rw [← he, List.length_append]; omega
  rw [he] at hm
  have HOo2 := hidden he
  clear he
  obtain ⟨x0, x1⟩ := box_c hbx
  obtain ⟨c0, c1, c2, c3⟩ := hm.c
  have HA := hidden hm
  have HX := hidden hbx
  clear hm hbx
  go_upto_if 45 with fail
  go_cut [] from 36 to 54 (fun wx => OS w0 M true X k n wx l' (o2 ++ g3 true ⟨k, n⟩) d)
  case first =>
    by_cases q : k % 8 = 6
    · have e : g3 true ⟨k, n⟩ = [39, 32] := if_pos ⟨rfl, q⟩
      have z := (show ((k : Int) % 8 == 6) = true by simp <;> omega)
      have E := hidden e
      clear q e
      go_wp2_with (at_builtin; refine app_mv rfl (.tmp 50) (.tmp 51) rfl (HA.out.alloc _) rfl ⟨wc.heap.size, 0, none⟩ 2 2 [39, 32] rfl rfl (bytes_new wc [39, 32] rfl) (by simp; omega) ?_)
      intro v' w' ho hg
      have hK := (HA.out.alloc (.cells #[.int .u8 39, .int .u8 32] 5)).keep hg.out (v' := v') (show (wc.alloc (.cells #[.int .u8 39, .int .u8 32] 5)).heap[X]? = _ from (Below.heap_alloc wc _ X (Array.getElem?_eq_some_iff.1 HX.out).1).trans HX.out)
      obtain ⟨ua, uc, rfl⟩ := PlatenLayout.row_slice ho.out
      have HK := hidden hK.2
      obtain ⟨y0, y1⟩ := box_c hK.1
      have H2 := hidden ((HA.out.alloc (.cells #[.int .u8 39, .int .u8 32] 5)).push (x := [39, 32]) ho.out hg.out (by simp; omega))
      obtain ⟨j0, j1, j2, j3, q2, q3⟩ := (HA.out.alloc (.cells #[.int .u8 39, .int .u8 32] 5)).after hg.out
      clear ho hg hK
      go_wp2_with fail
      go_meet
      rw [E.out]
      exact ⟨⟨_, _, H2.out⟩, HK.out⟩
    · have e : g3 true ⟨k, n⟩ = [] := if_neg (fun h => q h.2)
      have z := (show ((k : Int) % 8 == 6) = false by simp <;> omega)
      have E := hidden e
      clear q e
      go_wp2_with fail
      go_meet
      rw [E.out, List.append_nil]
      exact ⟨⟨_, _, HA.out⟩, HX.out⟩
  case rest =>
  obtain ⟨⟨lv, ov, hm⟩, hbx⟩ := hcut
  clear HA HX c0 c1 c2 c3 x0 x1
  obtain ⟨o3, he⟩ : ∃ o, o2 ++ g3 true ⟨k, n⟩ = o := ⟨_, rfl⟩
  have hlo3 : o3.length ≤ o2.length + 2 := by rw [← he, List.length_append]; omega
  rw [he] at hm
  have HOo3 := hidden he
  clear he
  obtain ⟨x0, x1⟩ := box_c hbx
  obtain ⟨c0, c1, c2, c3⟩ := hm.c
  have HA := hidden hm
  have HX := hidden hbx
  clear hm hbx
  have hk := HKK.out
  have z4 : ((k : Int) % 4 == 0) = false := by simp; omega
  have z8 : (8 : Int) < (d : Int) := by omega
  clear hk hd9
  go_wp2_with fail
  refine (name_any n hkn.2 ⟨_, _, HA.out⟩ (by omega)).mono ?_
  rintro e w9 ⟨rfl, h9⟩
  have H9 := hidden h9
  clear h9 HA HX
  go_wp2_with fail
  go_end0
  rw [HOo1.out, HOo2.out, HOo3.out]
  exact ⟨rfl, H9.out⟩
set_option maxHeartbeats 4000000 in
theorem atom0_false {w0 w : World} {M : Nat} {l : List Nd} {out : List Nat} {d k n : Nat} (h : MK w0 M false w l out d) (hb : out.length ≤ 900000) (hxl : hd l = ⟨k, n⟩) (hkn : k < 256 ∧ n < 256) (hk : k % 4 = 0) :
    Calls Try.prog 30 #[.pointer (some ⟨M, 0, none⟩)] w fun e w' => e = .returned (.tuple #[]) ∧ MK w0 M false w' l.tail ((out ++ g1 ⟨k, n⟩) ++ nameB n) d := by
  have cn := next_any h
  rw [hxl] at cn
  simp only at cn
  have HL := g1_len ⟨k, n⟩
  have HL2 := g2_len false ⟨k, n⟩
  have HL3 := g3_len false ⟨k, n⟩
  obtain ⟨l', hl'⟩ : ∃ l', l.tail = l' := ⟨_, rfl⟩
  rw [hl'] at cn ⊢
  clear h hl' hxl
  have HKK := hidden hk
  clear hk
  go_enter Try.func30, Try.ntmps30
  go_wp2_with fail
  refine cn.mono ?_
  clear cn
  rintro e w1 ⟨rfl, lv, ov, hm⟩
  have hbx : (w1.alloc (.cells #[.int .u8 (k : Nat), .int .u8 (n : Nat)] 82)).heap[w1.heap.size]? = some (.cells #[.int .u8 (k : Nat), .int .u8 (n : Nat)] 82 (0, 0)) := heap_alloc_new _ _
  obtain ⟨x0, x1⟩ := box_c hbx
  have ha := hm.alloc (.cells #[.int .u8 (k : Nat), .int .u8 (n : Nat)] 82)
  obtain ⟨c0, c1, c2, c3⟩ := ha.c
  have HA := hidden ha
  have HX := hidden hbx
  clear ha hbx hm
  go_upto_if 8 with fail
  generalize w1.alloc (Obj.cells #[Value.int .u8 (k : Nat), Value.int .u8 (n : Nat)] 82) = wa at *
  generalize w1.heap.size = X at *
  go_cut [] from 5 to 17 (fun wx => OS w0 M false X k n wx l' (out ++ g1 ⟨k, n⟩) d)
  case first =>
    by_cases q : 12 ≤ n % 16
    · have e : g1 ⟨k, n⟩ = [10, 32] := if_pos q
      have z := (show 12 ≤ (n : Int) % 16 by omega)
      have E := hidden e
      clear q e
      go_wp2_with (at_builtin; refine app_mv rfl (.tmp 13) (.tmp 14) rfl (HA.out.alloc _) rfl ⟨wa.heap.size, 0, none⟩ 2 2 [10, 32] rfl rfl (bytes_new wa [10, 32] rfl) (by simp; omega) ?_)
      intro v' w' ho hg
      have hK := (HA.out.alloc (.cells #[.int .u8 10, .int .u8 32] 5)).keep hg.out (v' := v') (show (wa.alloc (.cells #[.int .u8 10, .int .u8 32] 5)).heap[X]? = _ from (Below.heap_alloc wa _ X (Array.getElem?_eq_some_iff.1 HX.out).1).trans HX.out)
      obtain ⟨ua, uc, rfl⟩ := PlatenLayout.row_slice ho.out
      have HK := hidden hK.2
      obtain ⟨y0, y1⟩ := box_c hK.1
      have H2 := hidden ((HA.out.alloc (.cells #[.int .u8 10, .int .u8 32] 5)).push (x := [10, 32]) ho.out hg.out (by simp; omega))
      obtain ⟨j0, j1, j2, j3, q2, q3⟩ := (HA.out.alloc (.cells #[.int .u8 10, .int .u8 32] 5)).after hg.out
      clear ho hg hK
      go_wp2_with fail
      go_meet
      rw [E.out]
      exact ⟨⟨_, _, H2.out⟩, HK.out⟩
    · have e : g1 ⟨k, n⟩ = [] := if_neg q
      have z := (show ¬ 12 ≤ (n : Int) % 16 by omega)
      have E := hidden e
      clear q e
      go_wp2_with fail
      go_meet
      rw [E.out, List.append_nil]
      exact ⟨⟨_, _, HA.out⟩, HX.out⟩
  case rest =>
  obtain ⟨⟨lv, ov, hm⟩, hbx⟩ := hcut
  clear HA HX c0 c1 c2 c3 x0 x1
  obtain ⟨o1, he⟩ : ∃ o, out ++ g1 ⟨k, n⟩ = o := ⟨_, rfl⟩
  have hlo1 : o1.length ≤ out.length + 2 := by rw [← he, List.length_append]; omega
  rw [he] at hm
  have HOo1 := hidden he
  clear he
  obtain ⟨x0, x1⟩ := box_c hbx
  obtain ⟨c0, c1, c2, c3⟩ := hm.c
  have HA := hidden hm
  have HX := hidden hbx
  clear hm hbx
  have hk := HKK.out
  have z4 : ((k : Int) % 4 == 0) = true := by simp; omega
  clear hk
  go_wp2_with fail
  refine (name_any n hkn.2 ⟨_, _, HA.out⟩ (by omega)).mono ?_
  rintro e w9 ⟨rfl, h9⟩
  have H9 := hidden h9
  clear h9 HA HX
  go_wp2_with fail
  go_end0
  rw [HOo1.out]
  exact ⟨rfl, H9.out⟩
set_option maxHeartbeats 4000000 in
theorem atom9_false {w0 w : World} {M : Nat} {l : List Nd} {out : List Nat} {d k n : Nat} (h : MK w0 M false w l out d) (hb : out.length ≤ 900000) (hxl : hd l = ⟨k, n⟩) (hkn : k < 256 ∧ n < 256) (hk : ¬ k % 4 = 0) (hd9 : 8 < d) :
    Calls Try.prog 30 #[.pointer (some ⟨M, 0, none⟩)] w fun e w' => e = .returned (.tuple #[]) ∧ MK w0 M false w' l.tail ((out ++ g1 ⟨k, n⟩) ++ nameB n) d := by
  have cn := next_any h
  rw [hxl] at cn
  simp only at cn
  have HL := g1_len ⟨k, n⟩
  have HL2 := g2_len false ⟨k, n⟩
  have HL3 := g3_len false ⟨k, n⟩
  obtain ⟨l', hl'⟩ : ∃ l', l.tail = l' := ⟨_, rfl⟩
  rw [hl'] at cn ⊢
  clear h hl' hxl
  have HKK := hidden hk
  clear hk
  go_enter Try.func30, Try.ntmps30
  go_wp2_with fail
  refine cn.mono ?_
  clear cn
  rintro e w1 ⟨rfl, lv, ov, hm⟩
  have hbx : (w1.alloc (.cells #[.int .u8 (k : Nat), .int .u8 (n : Nat)] 82)).heap[w1.heap.size]? = some (.cells #[.int .u8 (k : Nat), .int .u8 (n : Nat)] 82 (0, 0)) := heap_alloc_new _ _
  obtain ⟨x0, x1⟩ := box_c hbx
  have ha := hm.alloc (.cells #[.int .u8 (k : Nat), .int .u8 (n : Nat)] 82)
  obtain ⟨c0, c1, c2, c3⟩ := ha.c
  have HA := hidden ha
  have HX := hidden hbx
  clear ha hbx hm
  go_upto_if 8 with fail
  generalize w1.alloc (Obj.cells #[Value.int .u8 (k : Nat), Value.int .u8 (n : Nat)] 82) = wa at *
  generalize w1.heap.size = X at *
  go_cut [] from 5 to 17 (fun wx => OS w0 M false X k n wx l' (out ++ g1 ⟨k, n⟩) d)
  case first =>
    by_cases q : 12 ≤ n % 16
    · have e : g1 ⟨k, n⟩ = [10, 32] := if_pos q
      have z := (show 12 ≤ (n : Int) % 16 by omega)
      have E := hidden e
      clear q e
      go_wp2_with (at_builtin; refine app_mv rfl (.tmp 13) (.tmp 14) rfl (HA.out.alloc _) rfl ⟨wa.heap.size, 0, none⟩ 2 2 [10, 32] rfl rfl (bytes_new wa [10, 32] rfl) (by simp; omega) ?_)
      intro v' w' ho hg
      have hK := (HA.out.alloc (.cells #[.int .u8 10, .int .u8 32] 5)).keep hg.out (v' := v') (show (wa.alloc (.cells #[.int .u8 10, .int .u8 32] 5)).heap[X]? = _ from (Below.heap_alloc wa _ X (Array.getElem?_eq_some_iff.1 HX.out).1).trans HX.out)
      obtain ⟨ua, uc, rfl⟩ := PlatenLayout.row_slice ho.out
      have HK := hidden hK.2
      obtain ⟨y0, y1⟩ := box_c hK.1
      have H2 := hidden ((HA.out.alloc (.cells #[.int .u8 10, .int .u8 32] 5)).push (x := [10, 32]) ho.out hg.out (by simp; omega))
      obtain ⟨j0, j1, j2, j3, q2, q3⟩ := (HA.out.alloc (.cells #[.int .u8 10, .int .u8 32] 5)).after hg.out
      clear ho hg hK
      go_wp2_with fail
      go_meet
      rw [E.out]
      exact ⟨⟨_, _, H2.out⟩, HK.out⟩
    · have e : g1 ⟨k, n⟩ = [] := if_neg q
      have z := (show ¬ 12 ≤ (n : Int) % 16 by omega)
      have E := hidden e
      clear q e
      go_wp2_with fail
      go_meet
      rw [E.out, List.append_nil]
      exact ⟨⟨_, _, HA.out⟩, HX.out⟩
  case rest =>
  obtain ⟨⟨lv, ov, hm⟩, hbx⟩ := hcut
  clear HA HX c0 c1 c2 c3 x0 x1
  obtain ⟨o1, he⟩ : ∃ o, out ++ g1 ⟨k, n⟩ = o := ⟨_, rfl⟩
  have hlo1 : o1.length ≤ out.length + 2 := by rw [← he, List.length_append]; omega
  rw [he] at hm
  have HOo1 := hidden he
  clear he
  obtain ⟨x0, x1⟩ := box_c hbx
  obtain ⟨c0, c1, c2, c3⟩ := hm.c
  have HA := hidden hm
  have HX := hidden hbx
  clear hm hbx
  have hk := HKK.out
  have z4 : ((k : Int) % 4 == 0) = false := by simp; omega
  have z8 : (8 : Int) < (d : Int) := by omega
  clear hk hd9
  go_wp2_with fail
  refine (name_any n hkn.2 ⟨_, _, HA.out⟩ (by omega)).mono ?_
  rintro e w9 ⟨rfl, h9⟩
  have H9 := hidden h9
  clear h9 HA HX
  go_wp2_with fail
  go_end0
  rw [HOo1.out]
  exact ⟨rfl, H9.out⟩
set_option maxHeartbeats 4000000 in
theorem list_s {w0 w : World} {M : Nat} {l : List Nd} {out : List Nat} {d k n : Nat} (h : MK w0 M true w l out d) (hb : out.length ≤ 900000) (hxl : hd l = ⟨k, n⟩) (hkn : k < 256 ∧ n < 256) (hk : ¬ k % 4 = 0) (hd8 : d ≤ 8) {LF : List Nd} {Z : List Nat} (cl : ∀ (W : World) (o : List Nat), MK w0 M true W l.tail o d → o.length ≤ out.length + 6 → Calls Try.prog 47 #[.pointer (some ⟨M, 0, none⟩), .int .u8 40, .int .u8 41, .int .i64 ((n : Int) % 4), .bool false] W fun e w' => e = .returned (.tuple #[]) ∧ MK w0 M true w' LF (o ++ Z) d) :
    Calls Try.prog 30 #[.pointer (some ⟨M, 0, none⟩)] w fun e w' => e = .returned (.tuple #[]) ∧ MK w0 M true w' LF ((((out ++ g1 ⟨k, n⟩) ++ g2 true ⟨k, n⟩) ++ g3 true ⟨k, n⟩) ++ Z) d := by
  have cn := next_any h
  rw [hxl] at cn
  simp only at cn
  have HL := g1_len ⟨k, n⟩
  have HL2 := g2_len true ⟨k, n⟩
  have HL3 := g3_len true ⟨k, n⟩
  obtain ⟨l', hl'⟩ : ∃ l', l.tail = l' := ⟨_, rfl⟩
  rw [hl'] at cn cl
  clear h hl' hxl
  have HKK := hidden hk
  clear hk
  go_enter Try.func30, Try.ntmps30
  go_wp2_with fail
  refine cn.mono ?_
  clear cn
  rintro e w1 ⟨rfl, lv, ov, hm⟩
  have hbx : (w1.alloc (.cells #[.int .u8 (k : Nat), .int .u8 (n : Nat)] 82)).heap[w1.heap.size]? = some (.cells #[.int .u8 (k : Nat), .int .u8 (n : Nat)] 82 (0, 0)) := heap_alloc_new _ _
  obtain ⟨x0, x1⟩ := box_c hbx
  have ha := hm.alloc (.cells #[.int .u8 (k : Nat), .int .u8 (n : Nat)] 82)
  obtain ⟨c0, c1, c2, c3⟩ := ha.c
  have HA := hidden ha
  have HX := hidden hbx
  clear ha hbx hm
  go_upto_if 8 with fail
  generalize w1.alloc (Obj.cells #[Value.int .u8 (k : Nat), Value.int .u8 (n : Nat)] 82) = wa at *
  generalize w1.heap.size = X at *
  go_cut [] from 5 to 17 (fun wx => OS w0 M true X k n wx l' (out ++ g1 ⟨k, n⟩) d)
  case first =>
    by_cases q : 12 ≤ n % 16
    · have e : g1 ⟨k, n⟩ = [10, 32] := if_pos q
      have z := (show 12 ≤ (n : Int) % 16 by omega)
      have E := hidden e
      clear q e
      go_wp2_with (at_builtin; refine app_mv rfl (.tmp 13) (.tmp 14) rfl (HA.out.alloc _) rfl ⟨wa.heap.size, 0, none⟩ 2 2 [10, 32] rfl rfl (bytes_new wa [10, 32] rfl) (by simp; omega) ?_)
      intro v' w' ho hg
      have hK := (HA.out.alloc (.cells #[.int .u8 10, .int .u8 32] 5)).keep hg.out (v' := v') (show (wa.alloc (.cells #[.int .u8 10, .int .u8 32] 5)).heap[X]? = _ from (Below.heap_alloc wa _ X (Array.getElem?_eq_some_iff.1 HX.out).1).trans HX.out)
      obtain ⟨ua, uc, rfl⟩ := PlatenLayout.row_slice ho.out
      have HK := hidden hK.2
      obtain ⟨y0, y1⟩ := box_c hK.1
      have H2 := hidden ((HA.out.alloc (.cells #[.int .u8 10, .int .u8 32] 5)).push (x := [10, 32]) ho.out hg.out (by simp; omega))
      obtain ⟨j0, j1, j2, j3, q2, q3⟩ := (HA.out.alloc (.cells #[.int .u8 10, .int .u8 32] 5)).after hg.out
      clear ho hg hK
      go_wp2_with fail
      go_meet
      rw [E.out]
      exact ⟨⟨_, _, H2.out⟩, HK.out⟩
    · have e : g1 ⟨k, n⟩ = [] := if_neg q
      have z := (show ¬ 12 ≤ (n : Int) % 16 by omega)
      have E := hidden e
      clear q e
      go_wp2_with fail
      go_meet
      rw [E.out, List.append_nil]
      exact ⟨⟨_, _, HA.out⟩, HX.out⟩
  case rest =>
  obtain ⟨⟨lv, ov, hm⟩, hbx⟩ := hcut
  clear HA HX c0 c1 c2 c3 x0 x1
  obtain ⟨o1, he⟩ : ∃ o, out ++ g1 ⟨k, n⟩ = o := ⟨_, rfl⟩
  have hlo1 : o1.length ≤ out.length + 2 := by rw [← he, List.length_append]; omega
  rw [he] at hm
  have HOo1 := hidden he
  clear he
  obtain ⟨x0, x1⟩ := box_c hbx
  obtain ⟨c0, c1, c2, c3⟩ := hm.c
  have HA := hidden hm
  have HX := hidden hbx
  clear hm hbx
  go_upto_if 27 with fail
  go_cut [] from 18 to 35 (fun wx => OS w0 M true X k n wx l' (o1 ++ g2 true ⟨k, n⟩) d)
  case first =>
    by_cases q : k % 8 = 7
    · have e : g2 true ⟨k, n⟩ = [44, 64] := if_pos ⟨rfl, q⟩
      have z := (show ((k : Int) % 8 == 7) = true by simp <;> omega)
      have E := hidden e
      clear q e
      go_wp2_with (at_builtin; refine apps_mv rfl (.tmp 32) _ rfl HA.out rfl _ [44, 64] rfl rfl (by decide) (by simp; omega) ?_)
      intro v' w' ho hg
      have hK := HA.out.keep hg.out (v' := v') HX.out
      obtain ⟨ua, uc, rfl⟩ := PlatenLayout.row_slice ho.out
      have HK := hidden hK.2
      obtain ⟨y0, y1⟩ := box_c hK.1
      have H2 := hidden (HA.out.push (x := [44, 64]) ho.out hg.out (by simp; omega))
      obtain ⟨j0, j1, j2, j3, q2, q3⟩ := HA.out.after hg.out
      clear ho hg hK
      go_wp2_with fail
      go_meet
      rw [E.out]
      exact ⟨⟨_, _, H2.out⟩, HK.out⟩
    · have e : g2 true ⟨k, n⟩ = [] := if_neg (fun h => q h.2)
      have z := (show ((k : Int) % 8 == 7) = false by simp <;> omega)
      have E := hidden e
      clear q e
      go_wp2_with fail
      go_meet
      rw [E.out, List.append_nil]
      exact ⟨⟨_, _, HA.out⟩, HX.out⟩
  case rest =>
  obtain ⟨⟨lv, ov, hm⟩, hbx⟩ := hcut
  clear HA HX c0 c1 c2 c3 x0 x1
  obtain ⟨o2, he⟩ : ∃ o, o1 ++ g2 true ⟨k, n⟩ = o := ⟨_, rfl⟩
  have hlo2 : o2.length ≤ o1.length + 2 := by rw [← he, List.length_append]; omega
  rw [he] at hm
  have HOo2 := hidden he
  clear he
  obtain ⟨x0, x1⟩ := box_c hbx
  obtain ⟨c0, c1, c2, c3⟩ := hm.c
  have HA := hidden hm
  have HX := hidden hbx
  clear hm hbx
  go_upto_if 45 with fail
  go_cut [] from 36 to 54 (fun wx => OS w0 M true X k n wx l' (o2 ++ g3 true ⟨k, n⟩) d)
  case first =>
    by_cases q : k % 8 = 6
    · have e : g3 true ⟨k, n⟩ = [39, 32] := if_pos ⟨rfl, q⟩
      have z := (show ((k : Int) % 8 == 6) = true by simp <;> omega)
      have E := hidden e
      clear q e
      go_wp2_with (at_builtin; refine app_mv rfl (.tmp 50) (.tmp 51) rfl (HA.out.alloc _) rfl ⟨wc.heap.size, 0, none⟩ 2 2 [39, 32] rfl rfl (bytes_new wc [39, 32] rfl) (by simp; omega) ?_)
      intro v' w' ho hg
      have hK := (HA.out.alloc (.cells #[.int .u8 39, .int .u8 32] 5)).keep hg.out (v' := v') (show (wc.alloc (.cells #[.int .u8 39, .int .u8 32] 5)).heap[X]? = _ from (Below.heap_alloc wc _ X (Array.getElem?_eq_some_iff.1 HX.out).1).trans HX.out)
      obtain ⟨ua, uc, rfl⟩ := PlatenLayout.row_slice ho.out
      have HK := hidden hK.2
      obtain ⟨y0, y1⟩ := box_c hK.1
      have H2 := hidden ((HA.out.alloc (.cells #[.int .u8 39, .int .u8 32] 5)).push (x := [39, 32]) ho.out hg.out (by simp; omega))
      obtain ⟨j0, j1, j2, j3, q2, q3⟩ := (HA.out.alloc (.cells #[.int .u8 39, .int .u8 32] 5)).after hg.out
      clear ho hg hK
      go_wp2_with fail
      go_meet
      rw [E.out]
      exact ⟨⟨_, _, H2.out⟩, HK.out⟩
    · have e : g3 true ⟨k, n⟩ = [] := if_neg (fun h => q h.2)
      have z := (show ((k : Int) % 8 == 6) = false by simp <;> omega)
      have E := hidden e
      clear q e
      go_wp2_with fail
      go_meet
      rw [E.out, List.append_nil]
      exact ⟨⟨_, _, HA.out⟩, HX.out⟩
  case rest =>
  obtain ⟨⟨lv, ov, hm⟩, hbx⟩ := hcut
  clear HA HX c0 c1 c2 c3 x0 x1
  obtain ⟨o3, he⟩ : ∃ o, o2 ++ g3 true ⟨k, n⟩ = o := ⟨_, rfl⟩
  have hlo3 : o3.length ≤ o2.length + 2 := by rw [← he, List.length_append]; omega
  rw [he] at hm
  have HOo3 := hidden he
  clear he
  obtain ⟨x0, x1⟩ := box_c hbx
  obtain ⟨c0, c1, c2, c3⟩ := hm.c
  have HA := hidden hm
  have HX := hidden hbx
  clear hm hbx
  have hk := HKK.out
  have z4 : ((k : Int) % 4 == 0) = false := by simp; omega
  have z8 : ¬ (8 : Int) < (d : Int) := by omega
  clear hk hd8
  go_wp2_with fail
  refine (cl _ _ ⟨_, _, HA.out⟩ (by omega)).mono ?_
  rintro e w9 ⟨rfl, h9⟩
  have H9 := hidden h9
  clear h9 HA HX cl
  go_wp2_with fail
  go_end0
  rw [HOo1.out, HOo2.out, HOo3.out]
  exact ⟨rfl, H9.out⟩
set_option maxHeartbeats 4000000 in
theorem list_o {w0 w : World} {M : Nat} {l : List Nd} {out : List Nat} {d k n : Nat} (h : MK w0 M false w l out d) (hb : out.length ≤ 900000) (hxl : hd l = ⟨k, n⟩) (hkn : k < 256 ∧ n < 256) (hk : ¬ k % 4 = 0) (hk1 : k % 4 = 1) (hd8 : d ≤ 8) {LF : List Nd} {Z : List Nat} (cl : ∀ (W : World) (o : List Nat), MK w0 M false W l.tail o d → o.length ≤ out.length + 6 → Calls Try.prog 47 #[.pointer (some ⟨M, 0, none⟩), .int .u8 123, .int .u8 125, .int .i64 ((n : Int) % 4), .bool true] W fun e w' => e = .returned (.tuple #[]) ∧ MK w0 M false w' LF (o ++ Z) d) :
    Calls Try.prog 30 #[.pointer (some ⟨M, 0, none⟩)] w fun e w' => e = .returned (.tuple #[]) ∧ MK w0 M false w' LF ((out ++ g1 ⟨k, n⟩) ++ Z) d := by
  have cn := next_any h
  rw [hxl] at cn
  simp only at cn
  have HL := g1_len ⟨k, n⟩
  have HL2 := g2_len false ⟨k, n⟩
  have HL3 := g3_len false ⟨k, n⟩
  obtain ⟨l', hl'⟩ : ∃ l', l.tail = l' := ⟨_, rfl⟩
  rw [hl'] at cn cl
  clear h hl' hxl
  have HKK := hidden hk
  clear hk
  go_enter Try.func30, Try.ntmps30
  go_wp2_with fail
  refine cn.mono ?_
  clear cn
  rintro e w1 ⟨rfl, lv, ov, hm⟩
  have hbx : (w1.alloc (.cells #[.int .u8 (k : Nat), .int .u8 (n : Nat)] 82)).heap[w1.heap.size]? = some (.cells #[.int .u8 (k : Nat), .int .u8 (n : Nat)] 82 (0, 0)) := heap_alloc_new _ _
  obtain ⟨x0, x1⟩ := box_c hbx
  have ha := hm.alloc (.cells #[.int .u8 (k : Nat), .int .u8 (n : Nat)] 82)
  obtain ⟨c0, c1, c2, c3⟩ := ha.c
  have HA := hidden ha
  have HX := hidden hbx
  clear ha hbx hm
  go_upto_if 8 with fail
  generalize w1.alloc (Obj.cells #[Value.int .u8 (k : Nat), Value.int .u8 (n : Nat)] 82) = wa at *
  generalize w1.heap.size = X at *
  go_cut [] from 5 to 17 (fun wx => OS w0 M false X k n wx l' (out ++ g1 ⟨k, n⟩) d)
  case first =>
    by_cases q : 12 ≤ n % 16
    · have e : g1 ⟨k, n⟩ = [10, 32] := if_pos q
      have z := (show 12 ≤ (n : Int) % 16 by omega)
      have E := hidden e
      clear q e
      go_wp2_with (at_builtin; refine app_mv rfl (.tmp 13) (.tmp 14) rfl (HA.out.alloc _) rfl ⟨wa.heap.size, 0, none⟩ 2 2 [10, 32] rfl rfl (bytes_new wa [10, 32] rfl) (by simp; omega) ?_)
      intro v' w' ho hg
      have hK := (HA.out.alloc (.cells #[.int .u8 10, .int .u8 32] 5)).keep hg.out (v' := v') (show (wa.alloc (.cells #[.int .u8 10, .int .u8 32] 5)).heap[X]? = _ from (Below.heap_alloc wa _ X (Array.getElem?_eq_some_iff.1 HX.out).1).trans HX.out)
      obtain ⟨ua, uc, rfl⟩ := PlatenLayout.row_slice ho.out
      have HK := hidden hK.2
      obtain ⟨y0, y1⟩ := box_c hK.1
      have H2 := hidden ((HA.out.alloc (.cells #[.int .u8 10, .int .u8 32] 5)).push (x := [10, 32]) ho.out hg.out (by simp; omega))
      obtain ⟨j0, j1, j2, j3, q2, q3⟩ := (HA.out.alloc (.cells #[.int .u8 10, .int .u8 32] 5)).after hg.out
      clear ho hg hK
      go_wp2_with fail
      go_meet
      rw [E.out]
      exact ⟨⟨_, _, H2.out⟩, HK.out⟩
    · have e : g1 ⟨k, n⟩ = [] := if_neg q
      have z := (show ¬ 12 ≤ (n : Int) % 16 by omega)
      have E := hidden e
      clear q e
      go_wp2_with fail
      go_meet
      rw [E.out, List.append_nil]
      exact ⟨⟨_, _, HA.out⟩, HX.out⟩
  case rest =>
  obtain ⟨⟨lv, ov, hm⟩, hbx⟩ := hcut
  clear HA HX c0 c1 c2 c3 x0 x1
  obtain ⟨o1, he⟩ : ∃ o, out ++ g1 ⟨k, n⟩ = o := ⟨_, rfl⟩
  have hlo1 : o1.length ≤ out.length + 2 := by rw [← he, List.length_append]; omega
  rw [he] at hm
  have HOo1 := hidden he
  clear he
  obtain ⟨x0, x1⟩ := box_c hbx
  obtain ⟨c0, c1, c2, c3⟩ := hm.c
  have HA := hidden hm
  have HX := hidden hbx
  clear hm hbx
  have hk := HKK.out
  have z4 : ((k : Int) % 4 == 0) = false := by simp; omega
  have z8 : ¬ (8 : Int) < (d : Int) := by omega
  have z5 : ((k : Int) % 4 == 1) = true := by simp; omega
  clear hk1
  clear hk hd8
  go_wp2_with fail
  refine (cl _ _ ⟨_, _, HA.out⟩ (by omega)).mono ?_
  rintro e w9 ⟨rfl, h9⟩
  have H9 := hidden h9
  clear h9 HA HX cl
  go_wp2_with fail
  go_end0
  rw [HOo1.out]
  exact ⟨rfl, H9.out⟩
set_option maxHeartbeats 4000000 in
theorem list_a {w0 w : World} {M : Nat} {l : List Nd} {out : List Nat} {d k n : Nat} (h : MK w0 M false w l out d) (hb : out.length ≤ 900000) (hxl : hd l = ⟨k, n⟩) (hkn : k < 256 ∧ n < 256) (hk : ¬ k % 4 = 0) (hk1 : ¬ k % 4 = 1) (hd8 : d ≤ 8) {LF : List Nd} {Z : List Nat} (cl : ∀ (W : World) (o : List Nat), MK w0 M false W l.tail o d → o.length ≤ out.length + 6 → Calls Try.prog 47 #[.pointer (some ⟨M, 0, none⟩), .int .u8 91, .int .u8 93, .int .i64 ((n : Int) % 4), .bool false] W fun e w' => e = .returned (.tuple #[]) ∧ MK w0 M false w' LF (o ++ Z) d) :
    Calls Try.prog 30 #[.pointer (some ⟨M, 0, none⟩)] w fun e w' => e = .returned (.tuple #[]) ∧ MK w0 M false w' LF ((out ++ g1 ⟨k, n⟩) ++ Z) d := by
  have cn := next_any h
  rw [hxl] at cn
  simp only at cn
  have HL := g1_len ⟨k, n⟩
  have HL2 := g2_len false ⟨k, n⟩
  have HL3 := g3_len false ⟨k, n⟩
  obtain ⟨l', hl'⟩ : ∃ l', l.tail = l' := ⟨_, rfl⟩
  rw [hl'] at cn cl
  clear h hl' hxl
  have HKK := hidden hk
  clear hk
  go_enter Try.func30, Try.ntmps30
  go_wp2_with fail
  refine cn.mono ?_
  clear cn
  rintro e w1 ⟨rfl, lv, ov, hm⟩
  have hbx : (w1.alloc (.cells #[.int .u8 (k : Nat), .int .u8 (n : Nat)] 82)).heap[w1.heap.size]? = some (.cells #[.int .u8 (k : Nat), .int .u8 (n : Nat)] 82 (0, 0)) := heap_alloc_new _ _
  obtain ⟨x0, x1⟩ := box_c hbx
  have ha := hm.alloc (.cells #[.int .u8 (k : Nat), .int .u8 (n : Nat)] 82)
  obtain ⟨c0, c1, c2, c3⟩ := ha.c
  have HA := hidden ha
  have HX := hidden hbx
  clear ha hbx hm
  go_upto_if 8 with fail
  generalize w1.alloc (Obj.cells #[Value.int .u8 (k : Nat), Value.int .u8 (n : Nat)] 82) = wa at *
  generalize w1.heap.size = X at *
  go_cut [] from 5 to 17 (fun wx => OS w0 M false X k n wx l' (out ++ g1 ⟨k, n⟩) d)
  case first =>
    by_cases q : 12 ≤ n % 16
    · have e : g1 ⟨k, n⟩ = [10, 32] := if_pos q
      have z := (show 12 ≤ (n : Int) % 16 by omega)
      have E := hidden e
      clear q e
      go_wp2_with (at_builtin; refine app_mv rfl (.tmp 13) (.tmp 14) rfl (HA.out.alloc _) rfl ⟨wa.heap.size, 0, none⟩ 2 2 [10, 32] rfl rfl (bytes_new wa [10, 32] rfl) (by simp; omega) ?_)
      intro v' w' ho hg
      have hK := (HA.out.alloc (.cells #[.int .u8 10, .int .u8 32] 5)).keep hg.out (v' := v') (show (wa.alloc (.cells #[.int .u8 10, .int .u8 32] 5)).heap[X]? = _ from (Below.heap_alloc wa _ X (Array.getElem?_eq_some_iff.1 HX.out).1).trans HX.out)
      obtain ⟨ua, uc, rfl⟩ := PlatenLayout.row_slice ho.out
      have HK := hidden hK.2
      obtain ⟨y0, y1⟩ := box_c hK.1
      have H2 := hidden ((HA.out.alloc (.cells #[.int .u8 10, .int .u8 32] 5)).push (x := [10, 32]) ho.out hg.out (by simp; omega))
      obtain ⟨j0, j1, j2, j3, q2, q3⟩ := (HA.out.alloc (.cells #[.int .u8 10, .int .u8 32] 5)).after hg.out
      clear ho hg hK
      go_wp2_with fail
      go_meet
      rw [E.out]
      exact ⟨⟨_, _, H2.out⟩, HK.out⟩
    · have e : g1 ⟨k, n⟩ = [] := if_neg q
      have z := (show ¬ 12 ≤ (n : Int) % 16 by omega)
      have E := hidden e
      clear q e
      go_wp2_with fail
      go_meet
      rw [E.out, List.append_nil]
      exact ⟨⟨_, _, HA.out⟩, HX.out⟩
  case rest =>
  obtain ⟨⟨lv, ov, hm⟩, hbx⟩ := hcut
  clear HA HX c0 c1 c2 c3 x0 x1
  obtain ⟨o1, he⟩ : ∃ o, out ++ g1 ⟨k, n⟩ = o := ⟨_, rfl⟩
  have hlo1 : o1.length ≤ out.length + 2 := by rw [← he, List.length_append]; omega
  rw [he] at hm
  have HOo1 := hidden he
  clear he
  obtain ⟨x0, x1⟩ := box_c hbx
  obtain ⟨c0, c1, c2, c3⟩ := hm.c
  have HA := hidden hm
  have HX := hidden hbx
  clear hm hbx
  have hk := HKK.out
  have z4 : ((k : Int) % 4 == 0) = false := by simp; omega
  have z8 : ¬ (8 : Int) < (d : Int) := by omega
  have z5 : ((k : Int) % 4 == 1) = false := by simp; omega
  clear hk1
  clear hk hd8
  go_wp2_with fail
  refine (cl _ _ ⟨_, _, HA.out⟩ (by omega)).mono ?_
  rintro e w9 ⟨rfl, h9⟩
  have H9 := hidden h9
  clear h9 HA HX cl
  go_wp2_with fail
  go_end0
  rw [HOo1.out]
  exact ⟨rfl, H9.out⟩
end Go.Proofs.PlatenTree

/- The laws' texts: made of nodes, made of signs. -/
namespace Go.Proofs.PlatenTree
open Go Go.RowKit Go.Shelf
open Go.Proofs.PlatenLayout (str str_size)
set_option linter.unusedVariables false
set_option maxRecDepth 100000

theorem MK.nodes {w0 w : World} {M : Nat} {s : Bool} {l : List Nd} {out : List Nat} {d : Nat} (h : MK w0 M s w l out d) : (hd l).kind < 256 ∧ (hd l).n < 256 := by
  obtain ⟨lv, ov, hm⟩ := h
  have := hm.nds.1
  cases l with
  | nil => exact ⟨by decide, by decide⟩
  | cons x r => exact this x (by simp)
theorem outg_s (out : List Nat) (x : Nd) (z : List Nat) : (((out ++ g1 x) ++ g2 true x) ++ g3 true x) ++ z = out ++ (gap true x ++ z) := by
  rw [gap_eq]; simp [List.append_assoc]
theorem outg_j (out : List Nat) (x : Nd) (z : List Nat) : (out ++ g1 x) ++ z = out ++ (gap false x ++ z) := by
  rw [gap_eq, g2_f, g3_f]; simp [List.append_assoc]
theorem atom_any {w0 w : World} {M : Nat} {s : Bool} {l : List Nd} {out : List Nat} {d : Nat} (h : MK w0 M s w l out d) (hb : out.length ≤ 900000) (hc : (hd l).kind % 4 = 0 ∨ 8 < d) :
    Calls Try.prog 30 #[.pointer (some ⟨M, 0, none⟩)] w fun e w' => e = .returned (.tuple #[]) ∧ MK w0 M s w' l.tail (out ++ (gap s (hd l) ++ nameB (hd l).n)) d := by
  have hkn := h.nodes
  by_cases hk : (hd l).kind % 4 = 0
  · cases s with
    | true => rw [← outg_s]; exact atom0_true h hb (k := (hd l).kind) (n := (hd l).n) rfl hkn hk
    | false => rw [← outg_j]; exact atom0_false h hb (k := (hd l).kind) (n := (hd l).n) rfl hkn hk
  · have h8 : 8 < d := hc.elim (fun q => absurd q hk) id
    cases s with
    | true => rw [← outg_s]; exact atom9_true h hb (k := (hd l).kind) (n := (hd l).n) rfl hkn hk h8
    | false => rw [← outg_j]; exact atom9_false h hb (k := (hd l).kind) (n := (hd l).n) rfl hkn hk h8
theorem el_zero (w0 : World) (M : Nat) (s : Bool) : El w0 M s 0 := fun w l out h hb => atom_any h (by omega) (Or.inr (by decide))
theorem tail_len (l : List Nd) : 27 * l.tail.length ≤ 27 * l.length := by
  cases l with
  | nil => exact Nat.le_refl _
  | cons x r => show 27 * r.length ≤ 27 * (r.length + 1); omega
theorem el_succ {w0 : World} {M : Nat} {s : Bool} {f : Nat} (hE : El w0 M s f) (hf : f < 9) : El w0 M s (f + 1) := by
  intro w l out h hb
  have hkn := h.nodes
  have htl := tail_len l
  have hn4 : ((hd l).n % 4 : Nat) ≤ 3 := by omega
  have en : (((hd l).n % 4 : Nat) : Int) = ((hd l).n : Int) % 4 := by omega
  by_cases hk : (hd l).kind % 4 = 0
  · have e : mk s (f + 1) l = (gap s (hd l) ++ nameB (hd l).n, l.tail) := by unfold mk; rw [if_pos hk]
    rw [e]
    exact atom_any h (by omega) (Or.inl hk)
  · have e : mk s (f + 1) l = (gap s (hd l) ++ (opn s (hd l) :: ((parts s (nmd s (hd l)) (mk s f) ((hd l).n % 4) true l.tail).1 ++ [cls s (hd l)])), (parts s (nmd s (hd l)) (mk s f) ((hd l).n % 4) true l.tail).2) := by unfold mk; rw [if_neg hk]
    rw [e]
    have hd8 : 9 - (f + 1) ≤ 8 := by omega
    cases s with
    | true =>
      rw [← outg_s]
      refine list_s h (by omega) (k := (hd l).kind) (n := (hd l).n) rfl hkn hk hd8 (fun W o hW ho => ?_)
      have := list_tf (op := 40) (en := 41) hE hf hn4 (by decide) (by decide) hW (by omega)
      rw [en] at this
      exact this
    | false =>
      rw [← outg_j]
      by_cases hk1 : (hd l).kind % 4 = 1
      · have e1 : opn false (hd l) = 123 := by unfold opn; rw [if_neg (by simp), if_pos hk1]
        have e2 : cls false (hd l) = 125 := by unfold cls; rw [if_neg (by simp), if_pos hk1]
        have e3 : nmd false (hd l) = true := by unfold nmd; simp [hk1]
        rw [e1, e2, e3]
        refine list_o h (by omega) (k := (hd l).kind) (n := (hd l).n) rfl hkn hk hk1 hd8 (fun W o hW ho => ?_)
        have := list_ft (op := 123) (en := 125) hE hf hn4 (by decide) (by decide) hW (by omega)
        rw [en] at this
        exact this
      · have e1 : opn false (hd l) = 91 := by unfold opn; rw [if_neg (by simp), if_neg hk1]
        have e2 : cls false (hd l) = 93 := by unfold cls; rw [if_neg (by simp), if_neg hk1]
        have e3 : nmd false (hd l) = false := by unfold nmd; simp [hk1]
        rw [e1, e2, e3]
        refine list_a h (by omega) (k := (hd l).kind) (n := (hd l).n) rfl hkn hk hk1 hd8 (fun W o hW ho => ?_)
        have := list_ff (op := 91) (en := 93) hE hf hn4 (by decide) (by decide) hW (by omega)
        rw [en] at this
        exact this
theorem el_all (w0 : World) (M : Nat) (s : Bool) : ∀ f, f ≤ 9 → El w0 M s f
  | 0, _ => el_zero w0 M s
  | f + 1, h => el_succ (el_all w0 M s f (by omega)) (by omega)
set_option maxHeartbeats 2000000 in
theorem grown_any (s : Bool) {v : Value} {l : List Nd} {w : World} (h : IsNd w v l) (hl : l.length ≤ 40) :
    Calls Try.prog 17 #[v, .bool s] w fun e w' => ∃ u, e = .returned u ∧ RowL w' u (mk s 9 l).1 ∧ Below w.heap.size w w' := by
  obtain ⟨_, a, cap, rfl, _⟩ := id h
  have hm : MV w w.heap.size s (w.alloc (.cells #[.slice a l.length cap, .bool s, .slice none 0 0, .int .i64 0] 58)) (.slice a l.length cap) (.slice none 0 0) l [] 0 :=
    ⟨heap_alloc_new _ _, h, World.ownsRow_nil _ _ _ _, Nat.le_refl _, (Below.refl _ _).alloc (Nat.le_refl _) _, by omega, by decide⟩
  have ce := el_all w w.heap.size s 9 (Nat.le_refl _) _ l [] ⟨_, _, hm⟩ (by simp; omega)
  rw [List.nil_append] at ce
  obtain ⟨z, hz⟩ : ∃ z, (mk s 9 l).1 = z := ⟨_, rfl⟩
  obtain ⟨lz, hlz⟩ : ∃ z, (mk s 9 l).2 = z := ⟨_, rfl⟩
  rw [hz, hlz] at ce
  rw [hz]
  clear hm hz hlz h
  go_enter Try.func17, Try.ntmps17
  go_wp2_with fail
  refine ce.mono ?_
  clear ce
  rintro e w1 ⟨rfl, lv, ov, hm⟩
  obtain ⟨c0, c1, c2, c3⟩ := hm.c
  have HM := hidden hm
  clear hm
  go_wp2_with fail
  go_ret
  exact ⟨_, rfl, rowL_of HM.out.row, HM.out.bel⟩

/-- Signs by numbers. -/
def signsL (s : Bool) : List Nat := if s then [40, 40, 40, 41, 41, 41, 34, 97, 39, 96, 44, 44, 64, 98, 49, 32, 10, 92] else [91, 93, 123, 125, 91, 93, 44, 58, 34, 97, 34, 45, 49, 48, 46, 101, 32, 10]
def txtL (s : Bool) (f : Nat → Nat) (n : Nat) : List Nat := (List.range n).map fun j => (signsL s).getD (f j % 18) 0
theorem signs_lt (s : Bool) (j : Nat) : (signsL s).getD j 0 < 256 := by
  cases s <;> exact getD_lt (by decide) j
theorem txtL_len (s : Bool) (f : Nat → Nat) (n : Nat) : (txtL s f n).length = n := by simp [txtL]
theorem txtL_lt (s : Bool) (f : Nat → Nat) (n : Nat) : ∀ c ∈ txtL s f n, c < 256 := by
  intro c hc
  obtain ⟨j, _, rfl⟩ := List.mem_map.1 hc
  exact signs_lt s _
theorem txtL_succ (s : Bool) (f : Nat → Nat) (n : Nat) : txtL s f (n + 1) = txtL s f n ++ [(signsL s).getD (f n % 18) 0] := by
  unfold txtL; rw [List.range_succ, List.map_append]; rfl
theorem str_at (q : List Nat) (hq : ∀ c ∈ q, c < 256) (j : Nat) (hj : j < (str q).size) : ((str q)[j]'hj).toNat = q.getD j 0 := by
  have hl : j < q.length := by rw [str_size] at hj; exact hj
  have h1 := hq _ (List.getElem_mem hl)
  have e : (str q)[j]'hj = UInt8.ofNat q[j] := by
    show (str q).data[j]'_ = _
    simp [str]
  rw [e, List.getD_eq_getElem?_getD, List.getElem?_eq_getElem hl]
  simp
  omega
set_option maxHeartbeats 2000000 in
theorem text_any (s : Bool) {v : Value} {n : Nat} {f : Nat → Nat} {w : World} (h : PlatenJson.Row w v n f) (hf : ∀ j, f j < 256) (hn : n ≤ 100000) :
    Calls Try.prog 15 #[v, .bool s] w fun e w' => ∃ u, e = .returned u ∧ RowL w' u (txtL s f n) ∧ Below w.heap.size w w' := by
  obtain ⟨i0, hi, hz0, hz1, hz2⟩ := info_parts info5
  obtain ⟨a, cap, rfl, _⟩ := id h
  have H := hidden h
  have Hf := hidden hf
  clear h hf
  cases s with
  | false =>
    go_enter Try.func15, Try.ntmps15
    go_wp2_with fail
    go_loopw [6, 7] (fun lv i wr => ∃ q : Nat, q ≤ n ∧ i = .int .i64 (q : Nat) ∧ wr.ownsRow w.heap.size 5 1 lv q (bc (txtL false f q)) ∧ Below w.heap.size w wr) (fun _ i _ => n - (intOf i).toNat)
    case atStart => exact ⟨0, Nat.zero_le _, rfl, World.ownsRow_nil _ _ _ _, Below.refl _ _⟩
    case round =>
      obtain ⟨q, hq, rfl, hown, hbe⟩ := hrel
      by_cases hlt : q < n
      · have hlz : (q : Int) < (n : Int) := by omega
        obtain ⟨a', cap', e0, hr⟩ := H.out.below hbe
        injection e0 with e1 e2 e3
        subst e1 e3
        clear e2
        obtain ⟨b, off, rfl, hcap, hr⟩ := hr (by omega)
        have c0 := hr q hlt
        have hfq := Hf.out q
        have hszr := hbe.size
        have hsucc := txtL_succ false f q
        obtain ⟨x, hx⟩ : ∃ x, f q = x := ⟨_, rfl⟩
        rw [hx] at c0 hfq hsucc
        have hv : ∀ hj, (({ data := #[91, 93, 123, 125, 91, 93, 44, 58, 34, 97, 34, 45, 49, 48, 46, 101, 32, 10] } : ByteArray)[x % 18]'hj).toNat = (signsL false).getD (x % 18) 0 := fun hj => str_at (signsL false) (by decide) (x % 18) hj
        obtain ⟨D, hD⟩ : ∃ D, (signsL false).getD (x % 18) 0 = D := ⟨_, rfl⟩
        rw [hD] at hsucc hv
        have hbl := txtL_len false f q
        have hbcl : (bc (txtL false f q)).length = q := by rw [bc_len]; exact hbl
        have HS := hidden hsucc
        have Hown := hidden hown
        have Hbe := hidden hbe
        have hnew : ∀ j u, ([Value.int .u8 (D : Nat)] : List Value)[j]? = some u → (wr.alloc (.cells #[.int .u8 (D : Nat)] 5)).cell? ((⟨wr.heap.size, 0, none⟩ : Addr).add j) = some u := PlatenLayout.cells_new wr 5 [.int .u8 (D : Nat)]
        have Hnew := hidden hnew
        have Hoa := hidden (PlatenLayout.row_grown hown (PlatenLayout.grownBy_alloc wr (.cells #[.int .u8 (D : Nat)] 5)) (by simp))
        have hza : w.heap.size ≤ (wr.alloc (.cells #[.int .u8 (D : Nat)] 5)).heap.size := by simp; omega
        have Hza := hidden hza
        clear hr hx hown hbe hD hsucc hbl hbcl hnew hza
        go_wp2_with (at_builtin; refine wpList_append_own _ rfl (.tmp 15) (.tmp 26) 22 rfl w.heap.size 5 i0 (.int .u8 0) 1 1 Try.underlying22 hi hz0 hz1 hz2 rfl (by decide) _ q (bc (txtL false f q)) rfl Hoa.out ⟨wr.heap.size, 0, none⟩ 1 1 [.int .u8 (D : Nat)] rfl rfl Hnew.out (by intro u hu; simp at hu; subst hu; rfl) (by unfold maxLen; omega) (by omega) Hza.out ?_)
        intro v' w' ho hg _
        have HO := hidden ho
        have HB := hidden ((Hbe.out.alloc hszr (.cells #[.int .u8 (D : Nat)] 5)).grown hg Hza.out (fun j hj => (Hoa.out.lt j hj).1))
        clear ho hg
        go_wp2_with fail
        go_roundw
        case rel =>
          refine ⟨q + 1, by omega, by go_num, ?_, HB.out⟩
          rw [HS.out, bc_app]
          exact HO.out
        case measure => simp [intOf]; omega
      · have hqn : q = n := by omega
        have hlz : ¬ ((q : Int) < (n : Int)) := by omega
        have Hown := hidden hown
        have Hbe := hidden hbe
        clear hown hbe
        go_wp2_with fail
        go_ret
        refine ⟨_, rfl, ?_, Hbe.out⟩
        have hf := Hown.out
        rw [hqn] at hf
        have hl := txtL_len false f n
        exact rowL_of (B := w.heap.size) (by rw [hl]; exact hf)
  | true =>
    go_enter Try.func15, Try.ntmps15
    go_wp2_with fail
    go_loopw [6, 7] (fun lv i wr => ∃ q : Nat, q ≤ n ∧ i = .int .i64 (q : Nat) ∧ wr.ownsRow w.heap.size 5 1 lv q (bc (txtL true f q)) ∧ Below w.heap.size w wr) (fun _ i _ => n - (intOf i).toNat)
    case atStart => exact ⟨0, Nat.zero_le _, rfl, World.ownsRow_nil _ _ _ _, Below.refl _ _⟩
    case round =>
      obtain ⟨q, hq, rfl, hown, hbe⟩ := hrel
      by_cases hlt : q < n
      · have hlz : (q : Int) < (n : Int) := by omega
        obtain ⟨a', cap', e0, hr⟩ := H.out.below hbe
        injection e0 with e1 e2 e3
        subst e1 e3
        clear e2
        obtain ⟨b, off, rfl, hcap, hr⟩ := hr (by omega)
        have c0 := hr q hlt
        have hfq := Hf.out q
        have hszr := hbe.size
        have hsucc := txtL_succ true f q
        obtain ⟨x, hx⟩ : ∃ x, f q = x := ⟨_, rfl⟩
        rw [hx] at c0 hfq hsucc
        have hv : ∀ hj, (({ data := #[40, 40, 40, 41, 41, 41, 34, 97, 39, 96, 44, 44, 64, 98, 49, 32, 10, 92] } : ByteArray)[x % 18]'hj).toNat = (signsL true).getD (x % 18) 0 := fun hj => str_at (signsL true) (by decide) (x % 18) hj
        obtain ⟨D, hD⟩ : ∃ D, (signsL true).getD (x % 18) 0 = D := ⟨_, rfl⟩
        rw [hD] at hsucc hv
        have hbl := txtL_len true f q
        have hbcl : (bc (txtL true f q)).length = q := by rw [bc_len]; exact hbl
        have HS := hidden hsucc
        have Hown := hidden hown
        have Hbe := hidden hbe
        have hnew : ∀ j u, ([Value.int .u8 (D : Nat)] : List Value)[j]? = some u → (wr.alloc (.cells #[.int .u8 (D : Nat)] 5)).cell? ((⟨wr.heap.size, 0, none⟩ : Addr).add j) = some u := PlatenLayout.cells_new wr 5 [.int .u8 (D : Nat)]
        have Hnew := hidden hnew
        have Hoa := hidden (PlatenLayout.row_grown hown (PlatenLayout.grownBy_alloc wr (.cells #[.int .u8 (D : Nat)] 5)) (by simp))
        have hza : w.heap.size ≤ (wr.alloc (.cells #[.int .u8 (D : Nat)] 5)).heap.size := by simp; omega
        have Hza := hidden hza
        clear hr hx hown hbe hD hsucc hbl hbcl hnew hza
        go_wp2_with (at_builtin; refine wpList_append_own _ rfl (.tmp 15) (.tmp 26) 22 rfl w.heap.size 5 i0 (.int .u8 0) 1 1 Try.underlying22 hi hz0 hz1 hz2 rfl (by decide) _ q (bc (txtL true f q)) rfl Hoa.out ⟨wr.heap.size, 0, none⟩ 1 1 [.int .u8 (D : Nat)] rfl rfl Hnew.out (by intro u hu; simp at hu; subst hu; rfl) (by unfold maxLen; omega) (by omega) Hza.out ?_)
        intro v' w' ho hg _
        have HO := hidden ho
        have HB := hidden ((Hbe.out.alloc hszr (.cells #[.int .u8 (D : Nat)] 5)).grown hg Hza.out (fun j hj => (Hoa.out.lt j hj).1))
        clear ho hg
        go_wp2_with fail
        go_roundw
        case rel =>
          refine ⟨q + 1, by omega, by go_num, ?_, HB.out⟩
          rw [HS.out, bc_app]
          exact HO.out
        case measure => simp [intOf]; omega
      · have hqn : q = n := by omega
        have hlz : ¬ ((q : Int) < (n : Int)) := by omega
        have Hown := hidden hown
        have Hbe := hidden hbe
        clear hown hbe
        go_wp2_with fail
        go_ret
        refine ⟨_, rfl, ?_, Hbe.out⟩
        have hf := Hown.out
        rw [hqn] at hf
        have hl := txtL_len true f n
        exact rowL_of (B := w.heap.size) (by rw [hl]; exact hf)
end Go.Proofs.PlatenTree
