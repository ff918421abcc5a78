/- Expressions that may be, in parentheses, are one, with all their tokens; a quote ahead makes one token more. -/
import Derived.Test.YtpcfbdnckmfelaaAp
import Derived.Test.YtpcfbdnckmfelaaSxL
import Derived.Test.YtpcfbdnckmfelaaSxP
namespace Go.Proofs.Ytpcfbdnckmfelaa.Lists
open Go.ChangeShapes Go.WideShapes Go.ChangeAt Go.RowKit Go.Proofs.PlatenSexp
set_option linter.unusedVariables false
set_option maxRecDepth 100000

theorem ans_ok {f : Nat → Nat} {n : Nat} (h : (ans f n).2.2 = 0) : ans f n = ((ans f n).1, 0, 0) := by
  rcases ans_cases f n with ⟨h1, h2⟩ | h1 | ⟨j, x, hj, hx, h1, _, _⟩
  · conv => lhs; rw [show ans f n = ((ans f n).1, (ans f n).2.1, (ans f n).2.2) from rfl, h1, h2]
  · rw [h1] at h; cases h
  · rw [h1] at h; exact absurd h hx
theorem src_lit (w : World) (L : List Nat) (cs : Array Value) (h : cs = (rowL L).toArray) : Src (w.alloc (.cells cs 5)) (.slice (some ⟨w.heap.size, 0, none⟩) L.length L.length) L := by
  refine Or.inr ⟨_, _, rfl, fun j u hj => ?_⟩
  have := heap_alloc_new w (.cells cs 5)
  have ea : (⟨w.heap.size, 0, none⟩ : Addr).add j = ⟨w.heap.size, j, none⟩ := by unfold Addr.add; split <;> simp_all
  rw [ea]
  unfold World.cell?
  rw [this, h]
  simpa using hj
/-- What the tokens of all are. -/
theorem all_facts (l m : List Tk) (s z : Nat) : ([(6, 0, 1), (1, 1, 1)] ++ sh 2 l ++ sh s m ++ [(2, z, 1)] : List Tk).length = l.length + m.length + 3 ∧
    (∀ i, i < l.length → ([(6, 0, 1), (1, 1, 1)] ++ sh 2 l ++ sh s m ++ [(2, z, 1)] : List Tk).getD (i + 2) (0, 0, 0) = ((l.getD i (0, 0, 0)).1, (l.getD i (0, 0, 0)).2.1 + 2, (l.getD i (0, 0, 0)).2.2)) ∧
    (([(6, 0, 1), (1, 1, 1)] ++ sh 2 l ++ sh s m ++ [(2, z, 1)] : List Tk).getD 0 (0, 0, 0)).1 = 6 ∧ (([(6, 0, 1), (1, 1, 1)] ++ sh 2 l ++ sh s m ++ [(2, z, 1)] : List Tk).getD 1 (0, 0, 0)).1 = 1 ∧
    (([(6, 0, 1), (1, 1, 1)] ++ sh 2 l ++ sh s m ++ [(2, z, 1)] : List Tk).getD (l.length + m.length + 2) (0, 0, 0)).1 = 2 := by
  refine ⟨by first | (simp [sh_len]; done) | (simp [sh_len]; omega), fun i hi => ?_, rfl, rfl, ?_⟩
  · rw [List.getD_eq_getElem?_getD, List.getElem?_append_left (by first | (simp [sh_len]; done) | (simp [sh_len]; omega)), List.getElem?_append_left (by first | (simp [sh_len]; done) | (simp [sh_len]; omega)), List.getElem?_append_right (by simp)]
    simp only [List.length_cons, List.length_nil]
    rw [show i + 2 - (0 + 1 + 1) = i by omega, List.getD_eq_getElem?_getD, List.getElem?_eq_getElem hi]
    simp [sh, hi]
  · rw [List.getD_eq_getElem?_getD, List.getElem?_append_right (by first | (simp [sh_len]; done) | (simp [sh_len]; omega))]
    have : l.length + m.length + 2 - ([(6, 0, 1), (1, 1, 1)] ++ sh 2 l ++ sh s m : List Tk).length = 0 := by first | (simp [sh_len]; done) | (simp [sh_len]; omega)
    rw [this]
    rfl
set_option maxHeartbeats 4000000 in
theorem long (v : Value) (n : Nat) (f : Nat → Nat) (v2 : Value) (n2 : Nat) (f2 : Nat → Nat) (w : World) (h : IsArg w v n f) (h2 : IsArg w v2 n2 f2) (hn : 60 < n) :
    Calls Try.prog 6 #[v, v2] w fun e w' => e = .returned (.bool true) ∧ Below w.heap.size w w' := by
  obtain ⟨hf, hm, a, cap, rfl, _⟩ := h
  obtain ⟨hf2, hm2, a2, cap2, rfl, _⟩ := h2
  have hlz : (60 : Int) < (n : Int) := by omega
  clear hn
  go_enter Try.func6, Try.ntmps6
  go_wp2_with fail
  refine (lists_any w).mono ?_
  rintro e w1 ⟨rfl, hb1⟩
  have B1 := hidden hb1
  clear hb1
  go_wp2_with fail
  refine (lists_any w1).mono ?_
  rintro e w2 ⟨rfl, hb2⟩
  have B2 := hidden (B1.out.trans (hb2.mono B1.out.size))
  clear hb2
  go_wp2_with fail
  go_ret
  exact ⟨rfl, B2.out⟩
set_option maxHeartbeats 4000000 in
theorem long2 (v : Value) (n : Nat) (f : Nat → Nat) (v2 : Value) (n2 : Nat) (f2 : Nat → Nat) (w : World) (h : IsArg w v n f) (h2 : IsArg w v2 n2 f2) (hn : n ≤ 60) (hn2 : 60 < n2) :
    Calls Try.prog 6 #[v, v2] w fun e w' => e = .returned (.bool true) ∧ Below w.heap.size w w' := by
  obtain ⟨hf, hm, a, cap, rfl, _⟩ := h
  obtain ⟨hf2, hm2, a2, cap2, rfl, _⟩ := h2
  have hlz : ¬ ((60 : Int) < (n : Int)) := by omega
  have hlz2 : (60 : Int) < (n2 : Int) := by omega
  clear hn hn2
  go_enter Try.func6, Try.ntmps6
  go_wp2_with fail
  refine (lists_any w).mono ?_
  rintro e w1 ⟨rfl, hb1⟩
  have B1 := hidden hb1
  clear hb1
  go_wp2_with fail
  refine (lists_any w1).mono ?_
  rintro e w2 ⟨rfl, hb2⟩
  have B2 := hidden (B1.out.trans (hb2.mono B1.out.size))
  clear hb2
  go_wp2_with fail
  go_ret
  exact ⟨rfl, B2.out⟩
set_option maxHeartbeats 16000000 in
theorem short (v : Value) (n : Nat) (f : Nat → Nat) (v2 : Value) (n2 : Nat) (f2 : Nat → Nat) (w : World) (h : IsArg w v n f) (h2 : IsArg w v2 n2 f2) (hn : n ≤ 60) (hn2 : n2 ≤ 60) :
    Calls Try.prog 6 #[v, v2] w fun e w' => e = .returned (.bool true) ∧ Below w.heap.size w w' := by
  obtain ⟨hf, hm, hr⟩ := h
  obtain ⟨hf2, hm2, hr2⟩ := h2
  have HR := hidden hr
  have HR2 := hidden hr2
  obtain ⟨a, cap, rfl, _⟩ := hr
  obtain ⟨a2, cap2, rfl, _⟩ := hr2
  have hlz : ¬ ((60 : Int) < (n : Int)) := by omega
  have hlz2 : ¬ ((60 : Int) < (n2 : Int)) := by omega
  have Hf := hidden hf
  have Hf2 := hidden hf2
  have Hn := hidden hn
  have Hn2 := hidden hn2
  clear hn hf hn2 hf2
  go_enter Try.func6, Try.ntmps6
  go_wp2_with fail
  refine (lists_any w).mono ?_
  rintro e w1 ⟨rfl, hb1⟩
  have B1 := hidden hb1
  have ct := text_any _ n f w1 Hf.out (HR.out.below hb1) (by have := Hn.out; omega)
  have HR2' := hidden (HR2.out.below hb1)
  clear hb1
  go_wp2_with fail
  refine ct.mono ?_
  clear ct
  rintro e w2 ⟨p, rfl, hownp, hb2⟩
  have B2 := hidden (B1.out.trans (hb2.mono B1.out.size))
  have ct := text_any _ n2 f2 w2 Hf2.out (HR2'.out.below hb2) (by have := Hn2.out; omega)
  rw [rowG_eq] at hownp
  have hPl := listOf_len (fun j => sgn (f j)) n
  have HP256 : Hid (∀ c ∈ listOf (fun j => sgn (f j)) n, c < 256) := listOf_lt (fun j => sgn_lt _) n
  generalize listOf (fun j => sgn (f j)) n = P at *
  have hsp : Src w2 p P := src_own hPl.symm hownp
  have hrp : Row w2 p n (fOf P) := row_ofL hPl.symm hownp
  clear hb2 hownp HR HR2 HR2'
  go_wp2_with fail
  refine ct.mono ?_
  clear ct
  rintro e w3 ⟨q, rfl, hownq, hb3⟩
  have B3 := hidden (B2.out.trans (hb3.mono B2.out.size))
  rw [rowG_eq] at hownq
  have hQl := listOf_len (fun j => sgn (f2 j)) n2
  have HQ256 : Hid (∀ c ∈ listOf (fun j => sgn (f2 j)) n2, c < 256) := listOf_lt (fun j => sgn_lt _) n2
  generalize listOf (fun j => sgn (f2 j)) n2 = Q at *
  have hsq : Src w3 q Q := src_own hQl.symm hownq
  have hrq : Row w3 q n2 (fOf Q) := row_ofL hQl.symm hownq
  have HSP := hidden (hsp.below hb3)
  have HSQ := hidden hsq
  have HRP := hidden (hrp.below hb3)
  have HRQ := hidden hrq
  obtain ⟨pa, pc, rfl, _⟩ := hrp
  obtain ⟨qa, qc, rfl, _⟩ := hrq
  have HPl := hidden hPl
  have HQl := hidden hQl
  clear hb3 hownq hsp hsq hPl hQl
  have cp := read_any _ n (fOf P) w3 (fOf_lt HP256.out) (by have := Hn.out; omega) HRP.out
  go_wp2_with fail
  refine cp.mono ?_
  clear cp
  rintro e w4 ⟨tp, rfl, htp, hb4⟩
  have B4 := hidden (B3.out.trans (hb4.mono B3.out.size))
  have cq := read_any _ n2 (fOf Q) w4 (fOf_lt HQ256.out) (by have := Hn2.out; omega) (HRQ.out.below hb4)
  have HSP4 := hidden (HSP.out.below hb4)
  have HSQ4 := hidden (HSQ.out.below hb4)
  have HTP := hidden htp
  clear hb4 htp HSP HSQ HRP HRQ
  go_wp2_with fail
  refine cq.mono ?_
  clear cq
  rintro e w5 ⟨tq, rfl, htq, hb5⟩
  have B5 := hidden (B4.out.trans (hb5.mono B4.out.size))
  have HSP5 := hidden (HSP4.out.below hb5)
  have HSQ5 := hidden (HSQ4.out.below hb5)
  have HTP5 := hidden (HTP.out.below hb5)
  have HTQ5 := hidden htq
  have HatP := hidden (ans_at (fOf P) n)
  have HlP : Hid ((ans (fOf P) n).1.length ≤ 1000000) := ans_len _ n (by have := Hn.out; omega)
  have HlQ : Hid ((ans (fOf Q) n2).1.length ≤ 1000000) := ans_len _ n2 (by have := Hn2.out; omega)
  clear hb5 htq HSP4 HSQ4 HTP
  by_cases hep : (ans (fOf P) n).2.2 = 0
  case neg =>
    have zp : (((ans (fOf P) n).2.2 : Int) != 0) = true := by rw [bne_iff_ne]; omega
    clear hep
    generalize (ans (fOf P) n).2.2 = xp at *
    generalize (ans (fOf P) n).2.1 = yp at *
    generalize (ans (fOf Q) n2).2.2 = xq at *
    generalize (ans (fOf Q) n2).2.1 = yq at *
    go_wp2_with fail
    go_ret
    exact ⟨rfl, B5.out⟩
  by_cases heq : (ans (fOf Q) n2).2.2 = 0
  case neg =>
    have zp : (((ans (fOf P) n).2.2 : Int) != 0) = false := by simp; omega
    have zq : (((ans (fOf Q) n2).2.2 : Int) != 0) = true := by rw [bne_iff_ne]; omega
    clear hep heq
    generalize (ans (fOf P) n).2.2 = xp at *
    generalize (ans (fOf P) n).2.1 = yp at *
    generalize (ans (fOf Q) n2).2.2 = xq at *
    generalize (ans (fOf Q) n2).2.1 = yq at *
    go_wp2_with fail
    go_ret
    exact ⟨rfl, B5.out⟩
  have hop := ans_ok hep
  have hoq := ans_ok heq
  generalize (ans (fOf P) n).1 = l at *
  generalize (ans (fOf Q) n2).1 = m at *
  have HALL : Hid (ans (fOf (LL P Q)) (LL P Q).length = ([(6, 0, 1), (1, 1, 1)] ++ sh 2 l ++ sh (P.length + 3) m ++ [(2, P.length + Q.length + 3, 1)], 0, 0)) :=
    ans_lists P Q l m (by rw [HPl.out]; have := Hn.out; omega) (by rw [HQl.out]; have := Hn2.out; omega) (by rw [HPl.out]; exact hop) (by rw [HQl.out]; exact hoq)
  rw [hop, hoq]
  clear hop hoq hep heq
  obtain ⟨hTl, hTm, hT0, hT1, hTz⟩ := all_facts l m (P.length + 3) (P.length + Q.length + 3)
  generalize ([(6, 0, 1), (1, 1, 1)] ++ sh 2 l ++ sh (P.length + 3) m ++ [(2, P.length + Q.length + 3, 1)] : List Tk) = T at *
  have HTl := hidden hTl
  have HTm := hidden hTm
  have HT0 := hidden hT0
  have HT1 := hidden hT1
  have HTz := hidden hTz
  clear hTl hTm hT0 hT1 hTz
  have lP : Hid (P.length ≤ 60) := by have := HPl.out; have := Hn.out; unfold Hid; omega
  have lQ : Hid (Q.length ≤ 60) := by have := HQl.out; have := Hn2.out; unfold Hid; omega
  have hnil : (w5.alloc (.cells #[.int .u8 39, .int .u8 40] 5)).ownsRow w5.heap.size 5 1 (.slice none 0 0) ([] : List Nat).length (rowL []) := World.ownsRow_nil _ _ _ _
  have Ba := hidden ((Below.refl w5.heap.size w5).alloc (Nat.le_refl _) (.cells #[.int .u8 39, .int .u8 40] 5))
  have sa : w5.heap.size ≤ (w5.alloc (.cells #[.int .u8 39, .int .u8 40] 5)).heap.size := by simp
  have zp : (((0 : Nat) : Int) != 0) = false := rfl
  simp only
  go_wp2_with (at_builtin; refine append_src rfl _ _ rfl w5.heap.size _ [] rfl hnil _ [39, 40] rfl (src_lit w5 [39, 40] _ rfl) (by decide) (by decide) sa ?_)
  intro v1 w6 ho6 hg6
  have b6 := below_append' sa hnil Ba.out hg6
  replace ho6 : w6.ownsRow w5.heap.size 5 1 v1 ([39, 40] : List Nat).length (rowL [39, 40]) := ho6
  have HSP6 := hidden (HSP5.out.below b6)
  have HSQ6 := hidden (HSQ5.out.below b6)
  have s6 := b6.size
  have hspP := HSP6.out
  have n6 : Hid (([39, 40] : List Nat).length ≤ 100000 ∧ P.length ≤ 100000) := by have := lP.out; exact ⟨by decide, by omega⟩
  clear hnil hg6 sa Ba
  go_wp2_with (at_builtin; refine append_src rfl _ _ rfl w5.heap.size _ [39, 40] rfl ho6 _ P rfl hspP n6.out.1 n6.out.2 s6 ?_)
  intro v2' w7 ho7 hg7
  replace ho7 : w7.ownsRow w5.heap.size 5 1 v2' ([39, 40] ++ P : List Nat).length (rowL ([39, 40] ++ P)) := by first | exact ho7 | (rw [List.length_append]; exact ho7) | simpa using ho7
  have b7 := below_append' s6 ho6 b6 hg7
  have s7 := b7.size
  have sa7 : w5.heap.size ≤ (w7.alloc (.cells #[.int .u8 32] 5)).heap.size := by simp; omega
  have n7 : Hid (([39, 40] ++ P : List Nat).length ≤ 100000 ∧ ([32] : List Nat).length ≤ 100000) := by have := lP.out; exact ⟨by simp; omega, by decide⟩
  generalize hA1 : ([39, 40] ++ P : List Nat) = A1 at *
  clear b6 s6 ho6 hg7 hspP
  go_wp2_with (at_builtin; refine append_src rfl _ _ rfl w5.heap.size _ A1 rfl (ho7.alloc _) _ [32] rfl (src_lit w7 [32] _ rfl) n7.out.1 n7.out.2 sa7 ?_)
  intro v3 w8 ho8 hg8
  replace ho8 : w8.ownsRow w5.heap.size 5 1 v3 (A1 ++ [32] : List Nat).length (rowL (A1 ++ [32])) := by first | exact ho8 | (rw [List.length_append]; exact ho8) | simpa using ho8
  have b8 := below_append' sa7 (ho7.alloc _) (b7.alloc s7 _) hg8
  have s8 := b8.size
  have hsqQ := HSQ5.out.below b8
  have n8 : Hid ((A1 ++ [32] : List Nat).length ≤ 100000 ∧ Q.length ≤ 100000) := by have := lP.out; have := lQ.out; exact ⟨by rw [← hA1]; simp; omega, by omega⟩
  generalize hA2 : (A1 ++ [32] : List Nat) = A2 at *
  clear b7 s7 sa7 ho7 hg8
  go_wp2_with (at_builtin; refine append_src rfl _ _ rfl w5.heap.size _ A2 rfl ho8 _ Q rfl hsqQ n8.out.1 n8.out.2 s8 ?_)
  intro v4 w9 ho9 hg9
  replace ho9 : w9.ownsRow w5.heap.size 5 1 v4 (A2 ++ Q : List Nat).length (rowL (A2 ++ Q)) := by first | exact ho9 | (rw [List.length_append]; exact ho9) | simpa using ho9
  have b9 := below_append' s8 ho8 b8 hg9
  have s9 := b9.size
  have sa9 : w5.heap.size ≤ (w9.alloc (.cells #[.int .u8 41] 5)).heap.size := by simp; omega
  have n9 : Hid ((A2 ++ Q : List Nat).length ≤ 100000 ∧ ([41] : List Nat).length ≤ 100000) := by have := lP.out; have := lQ.out; exact ⟨by rw [← hA2, ← hA1]; simp; omega, by decide⟩
  generalize hA3 : (A2 ++ Q : List Nat) = A3 at *
  clear b8 s8 ho8 hg9 hsqQ
  go_wp2_with (at_builtin; refine append_src rfl _ _ rfl w5.heap.size _ A3 rfl (ho9.alloc _) _ [41] rfl (src_lit w9 [41] _ rfl) n9.out.1 n9.out.2 sa9 ?_)
  intro v5 w10 ho10 hg10
  replace ho10 : w10.ownsRow w5.heap.size 5 1 v5 (A3 ++ [41] : List Nat).length (rowL (A3 ++ [41])) := by first | exact ho10 | (rw [List.length_append]; exact ho10) | simpa using ho10
  have b10 := below_append' sa9 (ho9.alloc _) (b9.alloc s9 _) hg10
  have hLL : A3 ++ [41] = LL P Q := by rw [← hA3, ← hA2, ← hA1]; rfl
  rw [hLL] at ho10
  have hL256 : ∀ c ∈ LL P Q, c < 256 := by
    intro c hc
    simp only [LL, List.mem_append, List.mem_cons, List.not_mem_nil, or_false] at hc
    rcases hc with (((h | h) | h) | h) | h
    · omega
    · exact HP256.out c h
    · omega
    · exact HQ256.out c h
    · omega
  have hLn := LL_len P Q
  have hrow := row_ofL rfl ho10
  have B10 := hidden (B5.out.trans (b10.mono B5.out.size))
  have HTP10 := hidden (HTP5.out.below b10)
  have ca := read_any _ _ _ w10 (fOf_lt hL256) (by have := lP.out; have := lQ.out; omega) hrow
  rw [HALL.out] at ca
  obtain ⟨va, vc, rfl, _⟩ := hrow
  obtain ⟨tqa, tqc, rfl, _⟩ := HTQ5.out
  have HTQ : Hid True := True.intro
  clear b9 s9 sa9 ho9 hg10 b10 ho10 hLL hL256 hLn hA1 hA2 hA3 HALL HTQ5 HTP5 HSP5 HSQ5 HSP6 HSQ6 HP256 HQ256
  generalize (LL P Q).length = N0 at *
  go_wp2_with fail
  refine ca.mono ?_
  clear ca
  rintro e w11 ⟨ta, rfl, hta, hb11⟩
  have B11 := hidden (B10.out.trans (hb11.mono B10.out.size))
  have htp := HTP10.out.below hb11
  clear hb11 HTP10
  obtain ⟨la, lc, rfl, hL⟩ := htp
  obtain ⟨ga, gc, rfl, hG⟩ := hta
  obtain ⟨g, rfl, hgc, hcT⟩ := hG (by rw [HTl.out]; omega)
  have HL := hidden hL
  have HcT := hidden hcT
  obtain ⟨c60, -, -⟩ := hcT 0 (by rw [HTl.out]; omega)
  obtain ⟨c10, -, -⟩ := hcT 1 (by rw [HTl.out]; omega)
  obtain ⟨c20, -, -⟩ := hcT (l.length + m.length + 2) (by rw [HTl.out]; omega)
  rw [HT0.out] at c60
  rw [HT1.out] at c10
  rw [HTz.out] at c20
  have zm : l.length ≤ 1000000 := HlP.out
  have zm2 : m.length ≤ 1000000 := HlQ.out
  have HTl2 : Hid (T.length = l.length + m.length + 3) := HTl.out
  have zN : (((T.length : Nat) : Int) != (l.length : Int) + (m.length : Int) + 3) = false := by rw [HTl.out]; simp
  obtain ⟨N, hN⟩ : ∃ N, N = T.length := ⟨_, rfl⟩
  rw [← hN] at zN hgc ⊢
  have hN3 : N = l.length + m.length + 3 := hN.trans HTl.out
  have e20 : (l.length + m.length + 2) = N - 1 := by omega
  rw [e20] at c20
  have hNb : N ≤ 3000000 := by omega
  have h3N : 3 ≤ N := by omega
  have HN := hidden hN
  have HN3 := hidden hN3
  clear hL hG hcT e20 hN hN3
  obtain ⟨ln, hln⟩ : ∃ ln, ln = l.length := ⟨_, rfl⟩
  have Hln := hidden hln
  rw [← hln] at zN zm ⊢
  clear hln
  obtain ⟨mn, hmn⟩ : ∃ mn, mn = m.length := ⟨_, rfl⟩
  rw [← hmn] at zN zm2 ⊢
  clear hmn
  go_wp2_with fail
  go_loopw [17] (fun i wr => ∃ k : Nat, k ≤ ln ∧ i = .int .i64 (k : Nat) ∧ ∃ q, wr = w11.drewN q) (fun i _ => ln - (intOf i).toNat)
  case atStart => exact ⟨0, Nat.zero_le _, rfl, 0, rfl⟩
  case round =>
    obtain ⟨k, hk, rfl, dq, rfl⟩ := hrel
    by_cases hlt : k < ln
    · obtain ⟨gl, rfl, hlc, hcl⟩ := HL.out (by rw [← Hln.out]; omega)
      obtain ⟨a1, a2, a3⟩ := hcl k (by rw [← Hln.out]; omega)
      obtain ⟨b1, b2, b3⟩ := HcT.out (k + 2) (by rw [← HN.out, HN3.out, ← Hln.out]; omega)
      rw [HTm.out k (by rw [← Hln.out]; exact hlt)] at b1 b2 b3
      have hat := HatP.out (l.getD k (0, 0, 0)) (by
        rw [List.getD_eq_getElem?_getD, List.getElem?_eq_getElem (by rw [← Hln.out]; exact hlt)]
        exact List.getElem_mem _)
      have hy : (l.getD k (0, 0, 0)).2.1 ≤ 1000 := by have := Hn.out; omega
      simp only at b1 b2 b3
      have hlz3 : (k : Int) < (ln : Int) := by omega
      have hk2 : ((k : Int) + 2).toNat = k + 2 := by omega
      have hk3 : (k : Int) + 2 < (N : Int) := by have := HN3.out; rw [← Hln.out] at this; omega
      have hk4 : (0 : Int) ≤ (k : Int) + 2 := by omega
      rw [← Hln.out] at hlc
      clear hcl hat
      generalize (l.getD k (0, 0, 0)).1 = x at *
      generalize (l.getD k (0, 0, 0)).2.1 = y at *
      generalize (l.getD k (0, 0, 0)).2.2 = z at *
      rw [show ((y + 2 : Nat) : Int) = (y : Int) + 2 by omega] at b2
      go_wp2_with fail
      go_quiet (fail)
      go_wp2
      go_roundw
      case rel => exact ⟨k + 1, by omega, by go_num, _, rfl⟩
      case measure => simp [intOf]; omega
    · have hlz3 : ¬ ((k : Int) < (ln : Int)) := by omega
      have hn1 : ((N : Int) - 1).toNat = N - 1 := by omega
      have z1 : (0 : Int) ≤ (N : Int) - 1 := by omega
      have z2 : (N : Int) - 1 < (N : Int) := by omega
      have z3 : (1 : Int) < (N : Int) := by omega
      have z4 : (0 : Int) < (N : Int) := by omega
      go_wp2_with fail
      go_ret
      exact ⟨by simp, bel_dN B11.out dq⟩
theorem law (v : Value) (n : Nat) (f : Nat → Nat) (v2 : Value) (n2 : Nat) (f2 : Nat → Nat) (w : World) (h : IsArg w v n f) (h2 : IsArg w v2 n2 f2) :
    Calls Try.prog 6 #[v, v2] w fun e w' => e = .returned (.bool true) ∧ Below w.heap.size w w' := by
  by_cases hn : 60 < n
  · exact long v n f v2 n2 f2 w h h2 hn
  · by_cases hn2 : 60 < n2
    · exact long2 v n f v2 n2 f2 w h h2 (by omega) hn2
    · exact short v n f v2 n2 f2 w h h2 (by omega) (by omega)

set_option maxRecDepth 100000 in
theorem lifted (os : Os) (started : os.Started) (H : Type) (enc : TypeId × Value → H) :
    ReturnsInHanded {} Try.checked os 6 .any (Rows.sexpListsSpec.pre6 enc Try.prog Try.f6 Rows.sexpListsRow.domain false) (Rows.sexpListsSpec.post enc Try.prog Try.f6 false true false false) := by
  refine returnsInHanded_of_change (C := Try.checked) own started (by kernel_rfl) Try.func6
    (ChangeSpec.witness6 (enc := enc) (C := Try.checked) false ⟨#[], #[.slice none 0 0, .slice none 0 0], []⟩ 8 (by kernel_rfl) (by kernel_rfl) (by kernel_rfl) (by kernel_rfl)) ?_
  intro W base args ds gs before hval0 hW _ _
  have hval : ∀ (j : Nat) t v, Try.f6.params[j]? = some t → args[j]? = some v → Value.okWide Try.prog W .any base t v := hval0
  have hW' := hW
  obtain ⟨p, q, hA0, hV, rfl, _, _⟩ := hW
  have hA : DataW.TrodAll enc Try.prog W 0 (fun _ => true) true Try.f6.params.toList args.toList ds p := hA0
  rw [Try.params6] at hA hval
  obtain ⟨v0, vs0, d0, ds0, p0, q0, hargs, rfl, rfl, h0, r0⟩ := trodAll_cons hA
  obtain ⟨v1, vs1, d1, ds1, p1, q1, rfl, rfl, rfl, h1, r1⟩ := trodAll_cons r0
  obtain ⟨rfl, rfl, rfl⟩ := trodAll_nil r1
  obtain rfl : args = #[v0, v1] := by cases args; simp_all
  obtain ⟨rfl, rfl⟩ := trodVars_none hV
  have lt0 : ∀ x ∈ p0, x.block < W.heap.size := by obtain ⟨m, hm⟩ := h0; exact DataW.trod_lt m _ _ _ hm
  obtain ⟨n0, f0, g0⟩ := open_bytes (hval 0 22 v0 rfl rfl) h0
  have lt1 : ∀ x ∈ p1, x.block < W.heap.size := by obtain ⟨m, hm⟩ := h1; exact DataW.trod_lt m _ _ _ hm
  obtain ⟨n1, f1, g1⟩ := open_bytes (hval 1 22 v1 rfl rfl) h1
  clear hA0 hval0
  simp only [List.append_nil] at hW'
  refine (law v0 n0 f0 v1 n1 f1 W g0 g1).mono fun e W' ⟨he, bel⟩ => ?_
  subst he
  exact ⟨_, rfl, _, _, _, [], _, [], hW', trodAll_mk1 (shut_bool Try.underlying4 _), (trodAll_cons_mk (Below.trod laidOut (by kernel_rfl) (of_decide_eq_true (by kernel_rfl)) h0 bel lt0) (trodAll_cons_mk (Below.trod laidOut (by kernel_rfl) (of_decide_eq_true (by kernel_rfl)) h1 bel lt1) trodAll_mk0)), rfl, bel.frame _, fun h => by cases h⟩

theorem said : Rows.SexpListsSaid :=
  OpenClaim.holds_of_wide 6 Try.f6 rfl rfl rfl rfl rfl rfl rfl ⟨rfl, rfl, rfl, rfl, rfl⟩ rfl rfl rfl rfl rfl (by kernel_rfl) Try.func6 (by kernel_rfl)
    (of_decide_eq_true (by kernel_rfl)) (by unfold Func.isWrapper; first | (rw [if_pos (by decide +kernel)]; kernel_rfl) | (rw [if_neg (by decide +kernel)]; exact ⟨rfl, rfl⟩))
    (fun os started H enc _ => lifted os started H enc)
#print axioms said
end Go.Proofs.Ytpcfbdnckmfelaa.Lists
