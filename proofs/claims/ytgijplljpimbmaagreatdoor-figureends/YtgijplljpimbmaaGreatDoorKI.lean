/- What strconv's fmtEFG comes to in general: a number's text, with an exponent. -/
import Derived.Test.YtgijplljpimbmaaGreatDoorFgI
import Derived.Deep.CutRange
import Derived.Deep.CutBlock
import Derived.WalkMore
namespace Go.Proofs.PlatenFigure
open Go.RowKit Go.Shelf
set_option linter.unusedVariables false
set_option linter.unusedSimpArgs false
set_option maxRecDepth 20000

def DgN (l : List Nat) : Prop := ∀ c ∈ l, 48 ≤ c ∧ c ≤ 57
def FrN (f : List Nat) : Prop := f = [] ∨ ∃ b, f = 46 :: b ∧ b ≠ [] ∧ DgN b
def ExN (x : List Nat) : Prop := x = [] ∨ ∃ s u, x = 101 :: s :: u ∧ (s = 43 ∨ s = 45) ∧ u ≠ [] ∧ DgN u
def SgN (s : List Nat) : Prop := s = [] ∨ s = [45]
theorem SgN.len {s : List Nat} (h : SgN s) : s.length ≤ 1 := by rcases h with rfl | rfl <;> decide
/-- A number's text. -/
def NmN (l : List Nat) : Prop := ∃ s a f x, l = s ++ (a ++ (f ++ x)) ∧ SgN s ∧ a ≠ [] ∧ DgN a ∧ FrN f ∧ ExN x ∧ l.length ≤ 60
/-- Digits in a buffer. -/
structure Buf (B nd : Nat) (g : Nat → Nat) (w : World) : Prop where
  cell : ∀ j, j < nd → w.cell? ⟨B, j, none⟩ = some (.int .u8 (g j : Nat))
  lo : ∀ j, j < nd → 48 ≤ g j
  hi : ∀ j, j < nd → g j ≤ 57
def sub (g : Nat → Nat) (i n : Nat) : List Nat := (List.range n).map fun j => g (i + j)
theorem sub_len (g : Nat → Nat) (i n : Nat) : (sub g i n).length = n := by simp [sub]
theorem sub_get (g : Nat → Nat) (i n j : Nat) (h : j < n) : (sub g i n).getD j 0 = g (i + j) := by
  rw [List.getD_eq_getElem?_getD, sub, List.getElem?_map, List.getElem?_range h]
  rfl
theorem sub_dg {B nd : Nat} {g : Nat → Nat} {w : World} (h : Buf B nd g w) (i n : Nat) (hn : i + n ≤ nd) : DgN (sub g i n) := by
  intro c hc
  simp only [sub, List.mem_map, List.mem_range] at hc
  obtain ⟨j, hj, rfl⟩ := hc
  exact ⟨h.lo _ (by omega), h.hi _ (by omega)⟩
def EfgP (base B : Nat) (w : World) (e : Ending) (w' : World) : Prop := ∃ v' l, e = .returned v' ∧ NmN l ∧ Out base B w w' v' l
theorem two_cell (w : World) (c d : Nat) (T : TypeId) : ∀ j, j < 2 → (w.alloc (.cells #[.int .u8 (c : Nat), .int .u8 (d : Nat)] T)).cell? ((⟨w.heap.size, 0, none⟩ : Addr).add j) = some (.int .u8 (([c, d] : List Nat).getD j 0 : Nat)) := by
  intro j hj
  rcases (show j = 0 ∨ j = 1 by omega) with rfl | rfl <;> simp [Addr.add]
theorem three_cell (w : World) (c d x : Nat) (T : TypeId) : ∀ j, j < 3 → (w.alloc (.cells #[.int .u8 (c : Nat), .int .u8 (d : Nat), .int .u8 (x : Nat)] T)).cell? ((⟨w.heap.size, 0, none⟩ : Addr).add j) = some (.int .u8 (([c, d, x] : List Nat).getD j 0 : Nat)) := by
  intro j hj
  rcases (show j = 0 ∨ j = 1 ∨ j = 2 by omega) with rfl | rfl | rfl <;> simp [Addr.add]
theorem buf_add {base B nd : Nat} {g : Nat → Nat} {w wx : World} {x : Value} {l : List Nat} (hO : Out base B w wx x l) (hb : Buf B nd g w) (i n : Nat) (h : i + n ≤ nd) : ∀ j, j < n → wx.cell? ((⟨B, i, none⟩ : Addr).add j) = some (.int .u8 ((sub g i n).getD j 0 : Nat)) := by
  intro j hj
  rw [sub_get g i n j hj]
  rw [show (⟨B, i, none⟩ : Addr).add j = ⟨B, i + j, none⟩ by cases j <;> simp [Addr.add]]
  exact (hO.cell (i + j)).trans (hb.cell _ (by omega))
theorem u8_wrap (n : Nat) (h : n < 256) : IntKind.u8.wrap (n : Int) = n := by
  rw [IntKind.wrap_u8]; omega
/-- The digits of an exponent. -/
theorem dig_lt (n : Nat) : 48 ≤ 48 + n % 10 ∧ 48 + n % 10 ≤ 57 := by omega
set_option maxHeartbeats 16000000 in
theorem efg_e (base B nd : Nat) (g : Nat → Nat) (dp : Int) (neg : Bool) (v : Value) (w : World) (hO : Out base B w w v []) (hb : Buf B nd g w) (h1 : 1 ≤ nd) (h2 : nd ≤ 20) (hd : dp < -3 ∨ 6 < dp) (hd1 : -900 ≤ dp) (hd2 : dp ≤ 900) :
    Calls Tryz.prog 75 #[v, .bool neg, .slice (some ⟨B, 0, none⟩) 32 32, .int .i64 dp, .int .i64 nd, .int .i64 nd, .int .u8 103, .bool true] w (EfgP base B w) := by
  have HO := hidden hO
  have HBf := hidden hb
  have hndI : (1 : Int) ≤ nd := by omega
  have hndJ : (nd : Int) ≤ 20 := by omega
  have hn0 : (((nd : Nat) : Int) == 0) = false := by simp only [beq_eq_false_iff_ne, ne_eq]; omega
  have hn1 : (((nd : Nat) : Int) != 0) = true := by simp only [bne_iff_ne, ne_eq]; omega
  have Hd := hidden hd
  clear hO hb hd
  unfold EfgP
  go_enter Tryz.func75, Tryz.ntmps75
  go_upto_region 8 with fail
  go_cut [56] from 50 to 55 (fun a wx => a = .bool true ∧ wx = w)
  case first =>
    rcases Hd.out with q | q
    · have q' : dp - 1 < -4 := by omega
      go_wp2_with fail
      go_meet
      exact ⟨rfl, rfl⟩
    · have q' : ¬ dp - 1 < -4 := by omega
      have q2 : (6 : Int) ≤ dp - 1 := by omega
      go_wp2_with fail
      go_meet
      exact ⟨rfl, rfl⟩
  case rest =>
  obtain ⟨rfl, hw⟩ := hcut
  rw [hw]
  clear hw
  go_upto_if 78 with fail
  go_cut [0] from 78 to 81 (fun x wx => ∃ sg, SgN sg ∧ Out base B w wx x sg)
  case first =>
    cases neg
    · go_wp2_with fail
      go_meet
      exact ⟨[], Or.inl rfl, HO.out⟩
    · go_wp2_with (at_builtin; refine app_any rfl _ _ rfl rfl (HO.out.alloc _) ⟨_, 0, none⟩ 1 1 [45] rfl rfl (by decide) (one_cell _ 45 5) (by decide) (by decide) ?_)
      intro v1 w1 hO1
      have HO1 := hidden hO1
      clear hO1
      go_wp2_with fail
      go_meet
      exact ⟨[45], Or.inr rfl, HO1.out⟩
  case rest =>
  obtain ⟨sg, hsg, hO1⟩ := hcut
  have HO1 := hidden hO1
  have HSg := hidden hsg
  have lsg := hsg.len
  have k0 := (hO1.cell 0).trans (HBf.out.cell 0 (by omega))
  clear hO1 hsg
  go_wp2_with (at_builtin; refine app_any rfl _ _ rfl rfl (HO1.out.alloc _) ⟨_, 0, none⟩ 1 1 [g 0] rfl rfl (by decide) (one_cell _ (g 0) 5) (by omega) (by decide) ?_)
  intro v2 w2 hO2
  have HO2 := hidden hO2
  clear hO2 k0
  go_upto_if 92 with fail
  go_cut [0, 20, 21] from 92 to 119 (fun x _ _ wx => ∃ f, FrN f ∧ f.length ≤ 20 ∧ Out base B w wx x (sg ++ (g 0 :: f)))
  case first =>
    by_cases q1 : nd = 1
    · have hq : ¬ (0 : Int) < (nd : Int) - 1 := by omega
      clear q1
      go_wp2_with fail
      go_meet
      exact ⟨[], Or.inl rfl, by simp, by simpa using HO2.out⟩
    · have hq : (0 : Int) < (nd : Int) - 1 := by omega
      have hq1 : (1 : Int) < (nd : Int) := by omega
      go_wp2_with (at_builtin; refine app_any rfl _ _ rfl rfl (HO2.out.alloc _) ⟨_, 0, none⟩ 1 1 [46] rfl rfl (by decide) (one_cell _ 46 5) (by simp; omega) (by decide) ?_)
      intro v3 w3 hO3
      have HO3 := hidden hO3
      clear hO3
      go_wp2_with (at_builtin; refine app_any rfl _ _ rfl rfl HO3.out ⟨B, 1, none⟩ (nd - 1) 31 (sub g 1 (nd - 1)) rfl (sub_len _ _ _) (by omega) (buf_add HO3.out HBf.out 1 (nd - 1) (by omega)) (by simp; omega) (by omega) ?_)
      intro v4 w4 hO4
      have HO4 := hidden hO4
      clear hO4
      go_wp2_with fail
      go_loopw [0, 114] (fun x i wr => x = v4 ∧ i = .int .i64 0 ∧ wr = w4) (fun _ _ _ => 0)
      case atStart => exact ⟨rfl, rfl, rfl⟩
      case round =>
      obtain ⟨rfl, rfl, rfl⟩ := hrel
      go_wp2_with fail
      go_meet
      refine ⟨46 :: sub g 1 (nd - 1), Or.inr ⟨_, rfl, ?_, sub_dg HBf.out 1 (nd - 1) (by omega)⟩, ?_, ?_⟩
      · intro e
        have := congrArg List.length e
        rw [sub_len] at this
        simp at this
        omega
      · rw [List.length_cons, sub_len]; omega
      · simpa using HO4.out
  case rest =>
  obtain ⟨f, hf, lf, hO3⟩ := hcut
  have HO3 := hidden hO3
  have HF := hidden hf
  clear hO3 hf HO2
  go_wp2_with (at_builtin; refine app_any rfl _ _ rfl rfl (HO3.out.alloc _) ⟨_, 0, none⟩ 1 1 [101] rfl rfl (by decide) (one_cell _ 101 5) (by simp; omega) (by decide) ?_)
  intro v4 w4 hO4
  have HO4 := hidden hO4
  clear hO4 HO3
  go_upto_if 129 with fail
  go_cut [19, 22] from 129 to 131 (fun c x wx => (∃ s : Nat, c = .int .u8 (s : Nat) ∧ (s = 43 ∨ s = 45)) ∧ (∃ q : Nat, x = .int .i64 (q : Nat) ∧ q ≤ 999) ∧ Out base B w wx v4 (sg ++ (g 0 :: (f ++ [101]))))
  case first =>
    by_cases q1 : dp - 1 < 0
    · have e1 : -(dp - 1) = (((1 - dp).toNat : Nat) : Int) := by omega
      have e2 : (1 - dp).toNat ≤ 999 := by omega
      go_wp2_with fail
      go_meet
      exact ⟨⟨45, rfl, Or.inr rfl⟩, ⟨(1 - dp).toNat, by congr 1; omega, by omega⟩, by simpa using HO4.out⟩
    · have e2 : (dp - 1).toNat ≤ 999 := by omega
      go_wp2_with fail
      go_meet
      exact ⟨⟨43, rfl, Or.inl rfl⟩, ⟨(dp - 1).toNat, by congr 1; omega, by omega⟩, by simpa using HO4.out⟩
  case rest =>
  obtain ⟨⟨s, rfl, hs⟩, ⟨q, rfl, hq⟩, hO5⟩ := hcut
  have HO5 := hidden hO5
  have HS := hidden hs
  clear hO5 hs HO4
  go_wp2_with (at_builtin; refine app_any rfl _ _ rfl rfl (HO5.out.alloc _) ⟨_, 0, none⟩ 1 1 [s] rfl rfl (by decide) (one_cell _ s 5) (by simp; omega) (by decide) ?_)
  intro v6 w6 hO6
  have HO6 := hidden hO6
  clear hO6 HO5
  go_upto_block 3 with fail
  go_cut [0] from 136 to 174 (fun x wx => ∃ u, u ≠ [] ∧ DgN u ∧ u.length ≤ 3 ∧ Out base B w wx x (sg ++ (g 0 :: (f ++ (101 :: s :: u)))))
  case first =>
    have hqI : (q : Int) ≤ 999 := by omega
    by_cases q1 : q < 10
    · have qI : (q : Int) < 10 := by omega
      have w1 : IntKind.u8.wrap (q : Int) = q := u8_wrap q (by omega)
      have dq : DgN [48, q + 48] := by intro c hc; simp at hc; omega
      clear q1
      go_wp2_with (at_builtin; refine app_any rfl _ _ rfl rfl (HO6.out.alloc _) ⟨_, 0, none⟩ 2 2 [48, q + 48] rfl rfl (by decide) (two_cell _ 48 (q + 48) 5) (by simp; omega) (by decide) ?_)
      intro v7 w7 hO7
      have HO7 := hidden hO7
      clear hO7
      go_wp2_with fail
      go_meet
      exact ⟨_, by simp, dq, by simp, by simpa using HO7.out⟩
    · by_cases q2 : q < 100
      · have qI : ¬ (q : Int) < 10 := by omega
        have qJ : (q : Int) < 100 := by omega
        have w1 : IntKind.u8.wrap ((q : Int) / 10) = (q : Int) / 10 := by rw [IntKind.wrap_u8]; omega
        have w2 : IntKind.u8.wrap ((q : Int) % 10) = (q : Int) % 10 := by rw [IntKind.wrap_u8]; omega
        have dq : DgN [q / 10 + 48, q % 10 + 48] := by intro c hc; simp at hc; omega
        clear q1 q2
        go_wp2_with (at_builtin; refine app_any rfl _ _ rfl rfl (HO6.out.alloc _) ⟨_, 0, none⟩ 2 2 [q / 10 + 48, q % 10 + 48] rfl rfl (by decide) (two_cell _ (q / 10 + 48) (q % 10 + 48) 5) (by simp; omega) (by decide) ?_)
        intro v7 w7 hO7
        have HO7 := hidden hO7
        clear hO7
        go_wp2_with fail
        go_meet
        exact ⟨_, by simp, dq, by simp, by simpa using HO7.out⟩
      · have qI : ¬ (q : Int) < 10 := by omega
        have qJ : ¬ (q : Int) < 100 := by omega
        have w1 : IntKind.u8.wrap ((q : Int) / 100) = (q : Int) / 100 := by rw [IntKind.wrap_u8]; omega
        have w2 : IntKind.u8.wrap ((q : Int) / 10) = (q : Int) / 10 := by rw [IntKind.wrap_u8]; omega
        have w3 : IntKind.u8.wrap ((q : Int) % 10) = (q : Int) % 10 := by rw [IntKind.wrap_u8]; omega
        have dq : DgN [q / 100 + 48, q / 10 % 10 + 48, q % 10 + 48] := by intro c hc; simp at hc; omega
        clear q1 q2
        go_wp2_with (at_builtin; refine app_any rfl _ _ rfl rfl (HO6.out.alloc _) ⟨_, 0, none⟩ 3 3 [q / 100 + 48, q / 10 % 10 + 48, q % 10 + 48] rfl rfl (by decide) (three_cell _ (q / 100 + 48) (q / 10 % 10 + 48) (q % 10 + 48) 5) (by simp; omega) (by decide) ?_)
        intro v7 w7 hO7
        have HO7 := hidden hO7
        clear hO7
        go_wp2_with fail
        go_meet
        exact ⟨_, by simp, dq, by simp, by simpa using HO7.out⟩
  case rest =>
  obtain ⟨u, hu1, hu2, hu3, hO7⟩ := hcut
  have HO7 := hidden hO7
  have HU1 := hidden hu1
  have HU2 := hidden hu2
  have HU3 := hidden hu3
  clear hO7 hu1 hu2 hu3 HO6
  go_wp2_with fail
  go_ret
  refine ⟨_, sg ++ (g 0 :: (f ++ (101 :: s :: u))), rfl, ⟨sg, [g 0], f, 101 :: s :: u, rfl, HSg.out, by simp, ?_, HF.out, Or.inr ⟨s, u, rfl, HS.out, HU1.out, HU2.out⟩, ?_⟩, HO7.out⟩
  · intro c hc
    simp at hc
    subst hc
    exact ⟨HBf.out.lo 0 (by omega), HBf.out.hi 0 (by omega)⟩
  · have := HU3.out
    simp
    omega
end Go.Proofs.PlatenFigure

/- What strconv's fmtEFG comes to in general: a number's text, without an exponent. -/
namespace Go.Proofs.PlatenFigure
open Go.RowKit Go.Shelf
set_option linter.unusedVariables false
set_option linter.unusedSimpArgs false
set_option maxRecDepth 20000

theorem DgN.snoc {l : List Nat} (h : DgN l) {c : Nat} (h1 : 48 ≤ c) (h2 : c ≤ 57) : DgN (l ++ [c]) := by
  intro x hx
  rcases List.mem_append.1 hx with hx | hx
  · exact h x hx
  · simp at hx
    omega
set_option maxHeartbeats 16000000 in
theorem efg_f (base B nd : Nat) (g : Nat → Nat) (dp : Int) (neg : Bool) (v : Value) (w : World) (hO : Out base B w w v []) (hb : Buf B nd g w) (h1 : 1 ≤ nd) (h2 : nd ≤ 20) (hd1 : -3 ≤ dp) (hd2 : dp ≤ 6) :
    Calls Tryz.prog 75 #[v, .bool neg, .slice (some ⟨B, 0, none⟩) 32 32, .int .i64 dp, .int .i64 nd, .int .i64 nd, .int .u8 103, .bool true] w (EfgP base B w) := by
  have HO := hidden hO
  have HBf := hidden hb
  have hndI : (1 : Int) ≤ nd := by omega
  have hndJ : (nd : Int) ≤ 20 := by omega
  have q1 : ¬ dp - 1 < -4 := by omega
  have q2 : ¬ (6 : Int) ≤ dp - 1 := by omega
  obtain ⟨P, hP⟩ : ∃ P : Nat, max ((nd : Int) - dp) 0 = (P : Int) := ⟨((nd : Int) - dp).toNat, by omega⟩
  have HP := hidden hP
  clear hO hb
  unfold EfgP
  go_enter Tryz.func75, Tryz.ntmps75
  go_upto_if 68 with fail
  go_cut [5] from 66 to 69 (fun x wx => x = .int .i64 nd ∧ wx = w)
  case first =>
    by_cases q : dp < (nd : Int)
    · go_wp2_with fail
      go_meet
      exact ⟨rfl, rfl⟩
    · go_wp2_with fail
      go_meet
      exact ⟨rfl, rfl⟩
  case rest =>
  obtain ⟨rfl, hw⟩ := hcut
  rw [hw]
  clear hw
  go_upto_if 178 with fail
  clear q1 q2 hP
  go_cut [0] from 178 to 181 (fun x wx => ∃ sg, SgN sg ∧ Out base B w wx x sg)
  case first =>
    cases neg
    · go_wp2_with fail
      go_meet
      exact ⟨[], Or.inl rfl, HO.out⟩
    · go_wp2_with (at_builtin; refine app_any rfl _ _ rfl rfl (HO.out.alloc _) ⟨_, 0, none⟩ 1 1 [45] rfl rfl (by decide) (one_cell _ 45 5) (by decide) (by decide) ?_)
      intro v1 w1 hO1
      have HO1 := hidden hO1
      clear hO1
      go_wp2_with fail
      go_meet
      exact ⟨[45], Or.inr rfl, HO1.out⟩
  case rest =>
  obtain ⟨sg, hsg, hO1⟩ := hcut
  have HO1 := hidden hO1
  have HSg := hidden hsg
  have lsg := hsg.len
  clear hO1 hsg
  go_upto_if 183 with fail
  go_cut [0, 23, 25] from 183 to 211 (fun x _ _ wx => ∃ a, a ≠ [] ∧ DgN a ∧ a.length ≤ 6 ∧ Out base B w wx x (sg ++ a))
  case first =>
    by_cases q : 0 < dp
    · obtain ⟨M, hM⟩ : ∃ M : Nat, min (nd : Int) dp = (M : Int) := ⟨(min (nd : Int) dp).toNat, by omega⟩
      have hM1 : (M : Int) ≤ nd := by omega
      have hM2 : (M : Int) ≤ dp := by omega
      have hM3 : 0 < M := by omega
      have hM4 : M ≤ 6 := by omega
      have HM := hidden hM
      go_wp2_with fail
      rw [decide_eq_true q]
      go_loopw [0, 191, 25] (fun x i c wr => ∃ (k : Nat) (l : List Nat), i = .int .i64 (k : Nat) ∧ k ≤ M ∧ Out base B w wr x (sg ++ l) ∧ DgN l ∧ l.length = k) (fun _ i _ _ => M - (intOf i).toNat)
      case atStart => exact ⟨0, [], rfl, Nat.zero_le _, by simpa using HO1.out, fun c hc => by simp at hc, rfl⟩
      case round =>
      obtain ⟨k, l, rfl, hk, hO2, hl, hkl⟩ := hrel
      have HO2 := hidden hO2
      have HL := hidden hl
      have HK := hidden hkl
      have ll : l.length ≤ 6 := by omega
      have kk : k < nd → wr.cell? ⟨B, k, none⟩ = some (.int .u8 (g k : Nat)) := fun hk => (hO2.cell k).trans (HBf.out.cell k hk)
      clear hO2 hl hkl
      by_cases qk : k < M
      · have kk := kk (by omega)
        have qI : (k : Int) < M := by omega
        go_wp2_with (at_builtin; refine app_any rfl _ _ rfl rfl (HO2.out.alloc _) ⟨_, 0, none⟩ 1 1 [g k] rfl rfl (by decide) (one_cell _ (g k) 5) (by simp; omega) (by decide) ?_)
        intro v3 w3 hO3
        have HO3 := hidden hO3
        clear hO3
        go_wp2_with fail
        go_roundw
        case rel => exact ⟨k + 1, l ++ [g k], by go_num, by omega, by simpa using HO3.out, HL.out.snoc (HBf.out.lo k (by omega)) (HBf.out.hi k (by omega)), by have := HK.out; simp; omega⟩
        case measure => simp [intOf]; omega
      · obtain rfl : k = M := by omega
        clear kk
        obtain ⟨Z, hZ⟩ : ∃ Z : Nat, dp - (k : Int) = (Z : Int) := ⟨(dp - (k : Int)).toNat, by omega⟩
        have hZ6 : k + Z ≤ 6 := by omega
        have HZ := hidden hZ
        go_wp2_with fail
        go_loopw [0, 203] (fun x i wr => ∃ (j : Nat) (l : List Nat), i = .int .i64 (j : Nat) ∧ j ≤ Z ∧ Out base B w wr x (sg ++ l) ∧ DgN l ∧ l.length = k + j) (fun _ i _ => Z - (intOf i).toNat)
        case atStart => exact ⟨0, l, rfl, Nat.zero_le _, HO2.out, HL.out, HK.out⟩
        case round =>
        clear HO2 HL HK
        obtain ⟨j, l, rfl, hj, hO2, hl, hkl⟩ := hrel
        have HO2 := hidden hO2
        have HL := hidden hl
        have HK := hidden hkl
        have ll : l.length ≤ 6 := by omega
        clear hO2 hl hkl
        by_cases qj : j < Z
        · have qI : (j : Int) < Z := by omega
          go_wp2_with (at_builtin; refine app_any rfl _ _ rfl rfl (HO2.out.alloc _) ⟨_, 0, none⟩ 1 1 [48] rfl rfl (by decide) (one_cell _ 48 5) (by simp; omega) (by decide) ?_)
          intro v3 w3 hO3
          have HO3 := hidden hO3
          clear hO3
          go_wp2_with fail
          go_roundw
          case rel => exact ⟨j + 1, l ++ [48], by go_num, by omega, by simpa using HO3.out, HL.out.snoc (by decide) (by decide), by have := HK.out; simp; omega⟩
          case measure => simp [intOf]; omega
        · obtain rfl : j = Z := by omega
          go_wp2_with fail
          go_meet
          exact ⟨l, by intro e; have := HK.out; rw [e] at this; simp at this; omega, HL.out, ll, HO2.out⟩
    · go_wp2_with (at_builtin; refine app_any rfl _ _ rfl rfl (HO1.out.alloc _) ⟨_, 0, none⟩ 1 1 [48] rfl rfl (by decide) (one_cell _ 48 5) (by omega) (by decide) ?_)
      intro v3 w3 hO3
      have HO3 := hidden hO3
      clear hO3
      go_wp2_with fail
      go_meet
      exact ⟨[48], by simp, fun c hc => by simp at hc; omega, by decide, HO3.out⟩
  case rest =>
  obtain ⟨a, ha0, ha, la, hO2⟩ := hcut
  have HO2 := hidden hO2
  have HA := hidden ha
  have HA0 := hidden ha0
  clear hO2 ha ha0 HO1
  go_upto_if 213 with fail
  go_cut [0, 26, 27, 28, 29, 30] from 213 to 266 (fun x _ _ _ _ _ wx => ∃ f, FrN f ∧ f.length ≤ 40 ∧ Out base B w wx x (sg ++ (a ++ f)))
  case first =>
    by_cases q : 0 < P
    · obtain ⟨Z, hZ⟩ : ∃ Z : Nat, max 0 (-dp) = (Z : Int) := ⟨(max 0 (-dp)).toNat, by omega⟩
      have hP := HP.out
      have hZ3 : Z ≤ 3 := by omega
      have e1 : min (P : Int) (Z : Int) = (Z : Int) := by omega
      obtain ⟨O, hOf⟩ : ∃ O : Nat, dp + (Z : Int) = (O : Int) := ⟨(dp + (Z : Int)).toNat, by omega⟩
      obtain ⟨M, hM⟩ : ∃ M : Nat, max 0 ((nd : Int) - (O : Int)) = (M : Int) := ⟨(max 0 ((nd : Int) - (O : Int))).toNat, by omega⟩
      have e2 : min ((P : Int) - (Z : Int)) (M : Int) = (M : Int) := by omega
      have e3 : (P : Int) - (Z : Int) - (M : Int) = 0 := by omega
      have hM0 : 0 < M := by omega
      have hMO : O + M ≤ nd := by omega
      have qI : (0 : Int) < P := by omega
      clear hP
      go_wp2_with (at_builtin; refine app_any rfl _ _ rfl rfl (HO2.out.alloc _) ⟨_, 0, none⟩ 1 1 [46] rfl rfl (by decide) (one_cell _ 46 5) (by simp; omega) (by decide) ?_)
      intro v3 w3 hO3
      have HO3 := hidden hO3
      clear hO3
      go_wp2_with fail
      go_loopw [0, 240] (fun x i wr => ∃ (k : Nat) (l : List Nat), i = .int .i64 (k : Nat) ∧ k ≤ Z ∧ Out base B w wr x (sg ++ (a ++ 46 :: l)) ∧ DgN l ∧ l.length = k) (fun _ i _ => Z - (intOf i).toNat)
      case atStart => exact ⟨0, [], rfl, Nat.zero_le _, by simpa using HO3.out, fun c hc => by simp at hc, rfl⟩
      case round =>
      clear HO3
      obtain ⟨k, l, rfl, hk, hO2, hl, hkl⟩ := hrel
      have HO2 := hidden hO2
      have HL := hidden hl
      have HK := hidden hkl
      have ll : l.length ≤ 3 := by omega
      clear hO2 hl hkl
      by_cases qk : k < Z
      · have qI : (k : Int) < Z := by omega
        go_wp2_with (at_builtin; refine app_any rfl _ _ rfl rfl (HO2.out.alloc _) ⟨_, 0, none⟩ 1 1 [48] rfl rfl (by decide) (one_cell _ 48 5) (by simp; omega) (by decide) ?_)
        intro v4 w4 hO4
        have HO4 := hidden hO4
        clear hO4
        go_wp2_with fail
        go_roundw
        case rel => exact ⟨k + 1, l ++ [48], by go_num, by omega, by simpa using HO4.out, HL.out.snoc (by decide) (by decide), by have := HK.out; simp; omega⟩
        case measure => simp [intOf]; omega
      · obtain rfl : k = Z := by omega
        go_wp2_with fail
        go_loopw [0, 247, 30] (fun x i c wr => ∃ (j : Nat) (l : List Nat), i = .int .i64 (j : Nat) ∧ j ≤ M ∧ Out base B w wr x (sg ++ (a ++ 46 :: l)) ∧ DgN l ∧ l.length = k + j) (fun _ i _ _ => M - (intOf i).toNat)
        case atStart => exact ⟨0, l, rfl, Nat.zero_le _, HO2.out, HL.out, HK.out⟩
        case round =>
        clear HO2 HL HK
        obtain ⟨j, l, rfl, hj, hO2, hl, hkl⟩ := hrel
        have HO2 := hidden hO2
        have HL := hidden hl
        have HK := hidden hkl
        have ll : l.length ≤ 30 := by omega
        have kk : O + j < nd → wr.cell? ⟨B, O + j, none⟩ = some (.int .u8 (g (O + j) : Nat)) := fun hk => (hO2.cell (O + j)).trans (HBf.out.cell (O + j) hk)
        clear hO2 hl hkl
        by_cases qj : j < M
        · have kk := kk (by omega)
          have qI : (j : Int) < M := by omega
          obtain ⟨I, hI⟩ : ∃ I, O + j = I := ⟨_, rfl⟩
          have eO : (O : Int) + (j : Int) = (I : Int) := by omega
          have hI32 : (I : Int) < 32 := by omega
          have dl := HBf.out.lo (O + j) (by omega)
          have dh := HBf.out.hi (O + j) (by omega)
          rw [hI] at kk dl dh
          have HDl := hidden dl
          have HDh := hidden dh
          clear hI dl dh
          go_wp2_with (at_builtin; refine app_any rfl _ _ rfl rfl (HO2.out.alloc _) ⟨_, 0, none⟩ 1 1 [g I] rfl rfl (by decide) (one_cell _ (g I) 5) (by simp; omega) (by decide) ?_)
          intro v4 w4 hO4
          have HO4 := hidden hO4
          clear hO4
          go_wp2_with fail
          go_roundw
          case rel => exact ⟨j + 1, l ++ [g I], by go_num, by omega, by simpa using HO4.out, HL.out.snoc HDl.out HDh.out, by have := HK.out; simp; omega⟩
          case measure => simp [intOf]; omega
        · obtain rfl : j = M := by omega
          clear kk
          go_wp2_with fail
          go_loopw [0, 261] (fun y i wq => y = u0 ∧ i = .int .i64 0 ∧ wq = wr) (fun _ _ _ => 0)
          case atStart => exact ⟨rfl, rfl, rfl⟩
          case round =>
          obtain ⟨rfl, rfl, rfl⟩ := hrel
          go_wp2_with fail
          go_meet
          exact ⟨46 :: l, Or.inr ⟨l, rfl, by intro e; have := HK.out; rw [e] at this; simp at this; omega, HL.out⟩, by simp; omega, HO2.out⟩
    · have qI : ¬ (0 : Int) < P := by omega
      go_wp2_with fail
      go_meet
      exact ⟨[], Or.inl rfl, by simp, by simpa using HO2.out⟩
  case rest =>
  obtain ⟨f, hf, lf, hO3⟩ := hcut
  have HO3 := hidden hO3
  have HF := hidden hf
  clear hO3 hf HO2
  go_wp2_with fail
  go_ret
  refine ⟨_, sg ++ (a ++ f), rfl, ⟨sg, a, f, [], by simp, HSg.out, HA0.out, HA.out, HF.out, Or.inl rfl, ?_⟩, HO3.out⟩
  simp
  omega
/-- Of nought: no digits. -/
theorem efg_0 (base B : Nat) (neg : Bool) (v : Value) (w : World) (hO : Out base B w w v []) :
    Calls Tryz.prog 75 #[v, .bool neg, .slice none 0 0, .int .i64 0, .int .i64 0, .int .i64 (-1), .int .u8 103, .bool true] w (EfgP base B w) := by
  have HO := hidden hO
  have m1 : max (-1 : Int) 0 = 0 := by decide
  clear hO
  unfold EfgP
  cases neg
  · go_enter Tryz.func75, Tryz.ntmps75
    go_wp2_with (at_builtin; refine app_any rfl _ _ rfl rfl (HO.out.alloc _) ⟨_, 0, none⟩ 1 1 [48] rfl rfl (by decide) (one_cell _ 48 5) (by decide) (by decide) ?_)
    intro v1 w1 hO1
    have HO1 := hidden hO1
    clear hO1
    go_wp2_with fail
    go_ret
    exact ⟨_, [48], rfl, ⟨[], [48], [], [], rfl, Or.inl rfl, by simp, fun c hc => by simp at hc; omega, Or.inl rfl, Or.inl rfl, by decide⟩, HO1.out⟩
  · go_enter Tryz.func75, Tryz.ntmps75
    go_wp2_with (at_builtin; refine app_any rfl _ _ rfl rfl (HO.out.alloc _) ⟨_, 0, none⟩ 1 1 [45] rfl rfl (by decide) (one_cell _ 45 5) (by decide) (by decide) ?_)
    intro v0 w0 hO0
    have HO0 := hidden hO0
    clear hO0
    go_wp2_with (at_builtin; refine app_any rfl _ _ rfl rfl (HO0.out.alloc _) ⟨_, 0, none⟩ 1 1 [48] rfl rfl (by decide) (one_cell _ 48 5) (by decide) (by decide) ?_)
    intro v1 w1 hO1
    have HO1 := hidden hO1
    clear hO1
    go_wp2_with fail
    go_ret
    exact ⟨_, [45, 48], rfl, ⟨[45], [48], [], [], rfl, Or.inr rfl, by simp, fun c hc => by simp at hc; omega, Or.inl rfl, Or.inl rfl, by decide⟩, HO1.out⟩
end Go.Proofs.PlatenFigure
