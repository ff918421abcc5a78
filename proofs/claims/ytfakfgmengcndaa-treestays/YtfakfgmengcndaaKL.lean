/- The document's items, token by token. -/
import Derived.Test.YtfakfgmengcndaaKK
namespace Go.Proofs.PlatenTree
open Go Go.RowKit Go.Shelf
open Go.Proofs.PlatenLayout (str str_size itC rowI rowI_app rowI_one rowI_len It IsItems isItems_of OkL OkIt row_slice)
set_option linter.unusedVariables false
set_option maxRecDepth 100000

/-- The kinds beside a token. -/
def pkA (P : List Pc) (j : Nat) : Nat := if j = 0 then 0 else ((P[j - 1]?).map Prod.fst).getD 0
def nkA (P : List Pc) (j : Nat) : Nat := hk (P.drop (j + 1))
def emit (s : Bool) (P : List Pc) (j : Nat) (t : Pc) : List It := pre s (pkA P j) t ++ (itx chn t :: post s (pkA P j) t (nkA P j))
def itR (s : Bool) (P : List Pc) : Nat → List It
  | 0 => []
  | j + 1 => itR s P j ++ (match P[j]? with | some t => emit s P j t | none => [])
theorem itR_succ {s : Bool} {P : List Pc} {j : Nat} {t : Pc} (h : P[j]? = some t) : itR s P (j + 1) = itR s P j ++ emit s P j t := by
  show itR s P j ++ (match P[j]? with | some t => emit s P j t | none => []) = _
  rw [h]
theorem pkA_succ {P : List Pc} {j : Nat} {t : Pc} (h : P[j]? = some t) : pkA P (j + 1) = t.1 := by
  unfold pkA
  rw [if_neg (by omega), Nat.add_sub_cancel, h]; rfl
theorem itR_drop (s : Bool) (P : List Pc) : ∀ j, j ≤ P.length → itR s P j ++ itms chn s (pkA P j) (P.drop j) = itms chn s 0 P
  | 0, _ => by rw [List.drop_zero]; rfl
  | j + 1, hj => by
    have hlt : j < P.length := by omega
    have hg : P[j]? = some P[j] := List.getElem?_eq_getElem hlt
    have ih := itR_drop s P j (by omega)
    rw [List.drop_eq_getElem_cons hlt] at ih
    rw [itR_succ hg, pkA_succ hg, List.append_assoc, ← ih]
    congr 1
    show (pre s (pkA P j) P[j] ++ (itx chn P[j] :: post s (pkA P j) P[j] (nkA P j))) ++ itms chn s P[j].1 (P.drop (j + 1)) = pre s (pkA P j) P[j] ++ (itx chn P[j] :: (post s (pkA P j) P[j] (hk (P.drop (j + 1))) ++ itms chn s P[j].1 (P.drop (j + 1))))
    rw [List.append_assoc]
    rfl
theorem itR_all (s : Bool) (P : List Pc) : itR s P P.length = itms chn s 0 P := by
  have := itR_drop s P P.length (Nat.le_refl _)
  rw [List.drop_length] at this
  have e : itms chn s (pkA P P.length) [] = [] := rfl
  rw [e, List.append_nil] at this
  exact this
theorem itR_len (s : Bool) (P : List Pc) (q : Nat) : (itR s P q).length ≤ 4 * q := by
  induction q with
  | zero => exact Nat.zero_le _
  | succ q ih =>
    show (itR s P q ++ _).length ≤ _
    rw [List.length_append]
    cases h : P[q]? with
    | none => simp; omega
    | some t =>
      show _ + (emit s P q t).length ≤ _
      unfold emit
      rw [List.length_append, List.length_cons]
      have h1 : (pre s (pkA P q) t).length ≤ 1 := by unfold pre; (repeat' split) <;> simp
      have h2 : (post s (pkA P q) t (nkA P q)).length ≤ 2 := by unfold post; (repeat' split) <;> simp
      omega
/-- What holds of the kinds around a token. -/
theorem around {s : Bool} {p : List Nat} {P : List Pc} (h : rd s p = some P) {j : Nat} {t : Pc} (hj : P[j]? = some t) :
    okB s (pkA P j) t.1 ∧ (t.1 = 1 → j + 1 < P.length) ∧ (t.1 = 2 → 0 < j) := by
  obtain ⟨hc, h1, h3⟩ := rd_ck h
  have key : ∀ (L : List Pc) (a : Nat), Ck (okB s) a L → ∀ i t, L[i]? = some t → okB s (if i = 0 then a else ((L[i - 1]?).map Prod.fst).getD 0) t.1 := by
    intro L
    induction L with
    | nil => intro a _ i t h; simp at h
    | cons x r ih =>
      intro a hc i t h
      cases i with
      | zero => rw [if_pos rfl]; simp at h; rw [← h]; exact hc.1
      | succ i =>
        have := ih x.1 hc.2 i t (by simpa using h)
        rw [if_neg (by omega)]
        cases i with
        | zero => simpa using this
        | succ i => simpa using this
  have hk := key P 0 hc j t hj
  refine ⟨hk, fun q => ?_, fun q => ?_⟩
  · have hl := (List.getElem?_eq_some_iff.1 hj).1
    rcases Nat.lt_or_ge (j + 1) P.length with g | g
    · exact g
    · exfalso
      have hlast : ∀ (L : List Pc) (a : Nat) (i : Nat) (t : Pc), L[i]? = some t → L.length ≤ i + 1 → lastD a L = t.1 := by
        intro L
        induction L with
        | nil => intro a i t h; simp at h
        | cons x r ih =>
          intro a i t h hle
          cases i with
          | zero =>
            simp at h
            cases r with
            | nil => rw [← h]; rfl
            | cons y z => simp at hle
          | succ i => exact ih x.1 i t (by simpa using h) (by simpa using hle)
      have := hlast P 0 j t hj g
      omega
  · rcases Nat.eq_zero_or_pos j with rfl | g
    · rw [if_pos rfl] at hk
      exact absurd q (hk.2.1 rfl)
    · exact g
end Go.Proofs.PlatenTree

/- The document's Items: what is laid out of a tree, place by place. -/
namespace Go.Proofs.PlatenTree
open Go Go.RowKit Go.Shelf
open Go.Proofs.PlatenLayout (str str_size itC rowI rowI_app rowI_one rowI_len It IsItems isItems_of OkL OkIt row_slice)
set_option linter.unusedVariables false
set_option maxRecDepth 100000

theorem gap_of_new2 {w : World} {o : Obj} {x : It} {cs : Array Value} (h : cs = (itC x).toArray) : Gap ((w.alloc o).alloc (.cells cs 54)) (.slice (some ⟨w.heap.size + 1, 0, none⟩) 1 1) [x] := by
  have := gap_of_new (w := w.alloc o) h
  rw [World.size_alloc] at this
  exact this
theorem tk_alloc {w : World} {tv : Value} {T : List Tk} (h : IsTk w tv T) (o : Obj) : IsTk (w.alloc o) tv T := h.below ((Below.refl _ _).alloc (Nat.le_refl _) o)
theorem map_get {p : List Nat} {T : List Tk} {P : List Pc} (h : T.map (pcs p) = P) {j : Nat} {t : Tk} (hj : T[j]? = some t) : P[j]? = some (pcs p t) := by rw [← h, List.getElem?_map, hj]; rfl
theorem nk_at {p : List Nat} {T : List Tk} {P : List Pc} (h : T.map (pcs p) = P) {j : Nat} {t : Tk} (hj : T[j + 1]? = some t) : nkA P j = t.1 := by
  have := map_get h hj
  unfold nkA
  rw [List.drop_eq_getElem_cons (List.getElem?_eq_some_iff.1 this).1, (List.getElem?_eq_some_iff.1 this).2]
  rfl
theorem pre_s (pk : Nat) (t : Pc) : pre true pk t = if t.1 ≠ 2 ∧ (pk = 5 ∨ pk = 2) then [bk 1 0] else [] := by unfold pre; simp
theorem pre_j (pk : Nat) (t : Pc) : pre false pk t = if t.1 = 2 ∧ pk ≠ 1 then [bk 0 (-2)] else [] := by unfold pre; simp
theorem post_s (pk : Nat) (t : Pc) (nk : Nat) : post true pk t nk = if t.1 = 1 ∧ nk ≠ 2 then [bgn 0 true false] else if t.1 = 2 ∧ pk ≠ 1 then [en] else if t.1 = 3 then [bk 1 0] else [] := by unfold post; simp
theorem post_j (pk : Nat) (t : Pc) (nk : Nat) : post false pk t nk = if t.1 = 1 ∧ nk ≠ 2 then [bgn 2 false true, bk 0 0] else if t.1 = 2 ∧ pk ≠ 1 then [en] else if t.1 = 3 then [bk 1 0] else [] := by unfold post; simp
theorem pk_at {p : List Nat} {T : List Tk} {P : List Pc} (h : T.map (pcs p) = P) {j : Nat} {t : Tk} (hj : T[j]? = some t) : pkA P (j + 1) = t.1 := pkA_succ (map_get h hj)

set_option maxHeartbeats 8000000 in
theorem ritems_false {v : Value} {p : List Nat} {w : World} (hp : ∀ c ∈ p, c < 256) (hn : p.length ≤ 69000) (h : RowL w v p) :
    Calls Try.prog 16 #[v, .bool false] w fun e w' => ItRes false p w e w' ∧ Below w.heap.size w w' := by
  have cs := rtread_any false hp (by omega) h
  unfold ItRes
  cases hrd : rd false p with
  | none =>
    have hne := ansL_no hrd
    generalize ansL false p = o at *
    obtain ⟨T, at', er⟩ := o
    simp only at hne
    have z0 : ((er : Int) != 0) = true := by simp; omega
    clear h hrd hne
    go_enter Try.func16, Try.ntmps16
    go_wp2_with fail
    refine cs.mono ?_
    clear cs
    rintro e w' ⟨tv, rfl, ht, hb⟩
    go_wp2_with fail
    go_ret3
    exact ⟨rfl, hb⟩
  | some P =>
    obtain ⟨T, eT, hP, hbd⟩ := ansL_ok hrd
    have hne := rd_ne hrd
    have hTl : T.length ≤ 69000 := by
      have h1 : T.length = P.length := by rw [← hP, List.length_map]
      have h3 : P.length ≤ p.length := by
        exact read_cn jm_ok (c := j0) rfl (show read JM j0 p = some P from hrd)
      omega
    rw [eT] at cs
    have HP := hidden hP
    have Hbd := hidden hbd
    have Hne := hidden hne
    have Har := hidden (fun j t hj => around hrd (j := j) (t := t) hj)
    have Hp := hidden hp
    have Hr := hidden h
    clear hP hbd hne hp h hrd eT
    obtain ⟨N, hN⟩ : ∃ N, T.length = N := ⟨_, rfl⟩
    have HN := hidden hN
    clear hN
    rw [HN.out] at hTl
    go_enter Try.func16, Try.ntmps16
    go_wp2_with fail
    refine cs.mono ?_
    clear cs
    rintro e w1 ⟨tv, rfl, ht, hb⟩
    obtain ⟨ta, tc, rfl, ht0⟩ := id ht
    clear ht0
    rw [HN.out]
    have HT := hidden ht
    have HB := hidden hb
    clear ht hb
    go_wp2_with fail
    go_loopw [10, 11] (fun lv i wr => ∃ q : Nat, q ≤ N ∧ i = .int .i64 (q : Nat) ∧ wr.ownsRow w1.heap.size 54 6 lv (itR false P q).length (rowI (itR false P q)) ∧ Below w1.heap.size w1 wr) (fun _ i _ => N - (intOf i).toNat)
    case atStart => exact ⟨0, Nat.zero_le _, rfl, World.ownsRow_nil _ _ _ _, Below.refl _ _⟩
    case round =>
      obtain ⟨q, hq, rfl, hown, hbe⟩ := hrel
      by_cases hlt : q < N
      · have hlz : (q : Int) < (N : Int) := by omega
        obtain ⟨t, hT⟩ : ∃ t, T[q]? = some t := ⟨_, List.getElem?_eq_getElem (by rw [HN.out]; exact hlt)⟩
        have hPq := map_get HP.out hT
        obtain ⟨tg, tc', e0, hcap, c0, c1, c2⟩ := tk_at (HT.out.below hbe) hT
        injection e0 with e1 e2 e3
        subst e1 e3
        clear e2
        have her := itR_succ (s := false) hPq
        obtain ⟨har1, har2, har3⟩ := Har.out q _ hPq
        have hbt := Hbd.out t (List.mem_of_getElem? hT)
        have hnet := Hne.out _ (List.mem_of_getElem? hPq)
        have hlen := itR_len false P q
        have hszr := hbe.size
        have hPN : P.length = N := by rw [← HP.out, List.length_map, HN.out]
        obtain ⟨k, a, m⟩ := t
        have hm1 : 1 ≤ m := by
          rcases Nat.eq_zero_or_pos m with rfl | g
          · exact absurd (by simp [pcs, sl]) hnet
          · exact g
        have hk6 : 1 ≤ k ∧ k ≤ 6 := har1.1
        have hkT : k ≠ 6 := by
          have := har1.2.2.2
          have e : (pcs p (k, a, m)).1 = k := rfl
          rw [e] at this
          exact har1.2.2.2.2 rfl
        have hpk : (q = 0 ∧ pkA P q = 0) ∨ ∃ r t', q = r + 1 ∧ T[r]? = some t' ∧ pkA P q = t'.1 := by
          rcases Nat.eq_zero_or_pos q with g | g
          · exact Or.inl ⟨g, by rw [g]; rfl⟩
          · obtain ⟨r, rfl⟩ : ∃ r, q = r + 1 := ⟨q - 1, by omega⟩
            obtain ⟨t', ht'⟩ : ∃ t', T[r]? = some t' := ⟨_, List.getElem?_eq_getElem (by rw [HN.out]; omega)⟩
            exact Or.inr ⟨r, t', rfl, ht', pk_at HP.out ht'⟩
        have hnk : k = 1 → ∃ t', T[q + 1]? = some t' ∧ nkA P q = t'.1 := by
          intro g
          have := har2 g
          obtain ⟨t', ht'⟩ : ∃ t', T[q + 1]? = some t' := ⟨_, List.getElem?_eq_getElem (by rw [HN.out]; omega)⟩
          exact ⟨t', ht', nk_at HP.out ht'⟩
        have hq0 : k = 2 → 0 < q := har3
        have hlk : pkA P q ≤ 6 := by
          unfold pkA
          by_cases g : q = 0
          · rw [if_pos g]; omega
          · rw [if_neg g]
            cases hg : P[q - 1]? with
            | none => simp
            | some x => have := (Har.out _ _ hg).1.1; simpa using this.2
        have hcn := fun j t' (hj : T[j]? = some t') (o : Obj) => tk_at (tk_alloc (HT.out.below hbe) o) hj
        have HW : Hid (RW w1 (wr.alloc (.cells #[.int .u8 (k : Nat), .int .i64 (a : Nat), .int .i64 (m : Nat)] 47)) u10 (itR false P q) wr.heap.size k a m) := ⟨hown.alloc _, hbe.alloc hszr _, heap_alloc_new _ _, hszr⟩
        have Er := hidden her
        simp only at c0 c1 c2
        rw [HN.out] at hcap
        have hNp : N ≤ 69000 := hTl
        have csay : ∀ (W : World), RowL W v p → Calls Try.prog 29 #[v, .agg #[.int .u8 (k : Nat), .int .i64 (a : Nat), .int .i64 (m : Nat)], .string (if k = 4 then ⟨#[32]⟩ else ⟨#[]⟩)] W fun e w' => e = .returned (.agg #[.int .u8 1, .string (str (sl p a m ++ if k = 4 then [32] else [])), .int .i64 0, .int .i64 0, .bool false, .bool false]) ∧ Below W.heap.size W w' :=
          fun W hW => say_any p (k, a, m) _ (if k = 4 then [32] else []) (by split <;> rfl) W Hp.out (by show k < 256; omega) (by omega) hm1 hbt hW (by split <;> simp)
        have ex : str (sl p a m ++ if k = 4 then [32] else []) = str (itx chn (pcs p (k, a, m))).tx := rfl
        have hit : (#[Value.int .u8 1, .string (str (itx chn (pcs p (k, a, m))).tx), .int .i64 0, .int .i64 0, .bool false, .bool false] : Array Value) = (itC (itx chn (pcs p (k, a, m)))).toArray := rfl
        obtain ⟨Y, hY⟩ : ∃ Y, str (sl p a m ++ if k = 4 then [32] else []) = Y := ⟨_, rfl⟩
        rw [← ex, hY] at hit
        have HI := hidden hit
        have HY := hidden hY
        have hemit : emit false P q (pcs p (k, a, m)) = pre false (pkA P q) (k, sl p a m) ++ (itx chn (pcs p (k, a, m)) :: post false (pkA P q) (k, sl p a m) (nkA P q)) := rfl
        generalize pkA P q = pk at *
        generalize nkA P q = nk at *
        generalize itR false P q = L at *
        clear hown hbe her har1 har2 har3 hnet hit ex hY hPq
        by_cases k1 : k = 1
        · obtain ⟨⟨k2, a2, m2⟩, ht2, hnt⟩ := hnk k1
          have hn1 : ∀ o, (wr.alloc o).cell? ⟨tg, (q + 1) * 3, none⟩ = some (.int .u8 (k2 : Nat)) := fun o => by
            obtain ⟨g, c, e, _, x, _⟩ := hcn (q + 1) _ ht2 o
            injection e with e1
            injection e1 with e1
            injection e1 with e1
            subst e1
            exact x
          have hlt2 : q + 1 < N := by
            have := (List.getElem?_eq_some_iff.1 ht2).1
            rw [HN.out] at this
            exact this
          have hq1 : (q : Int) + 1 < (N : Int) := by omega
          have hq1n : ((q : Int) + 1).toNat = q + 1 := by omega
          have hnt : nk = k2 := hnt
          clear ht2
          by_cases e2 : k2 = 2
          · have zk1 : ((k : Int) == 1) = true := by simp; omega
            have zk2 : ((k : Int) == 2) = false := by simp; omega
            have zk3 : ((k : Int) == 3) = false := by simp; omega
            have zk4 : ((k : Int) == 4) = false := by simp; omega
            have zn2 : ((k : Int) != 2) = true := by simp; omega
            simp only [if_neg (show ¬ k = 4 by omega)] at csay HY
            have zj5 : ((k2 : Int) == 2) = true := by simp; omega
            have He : Hid (emit false P q (pcs p (k, a, m)) = [itx chn (pcs p (k, a, m))]) := by
              rw [hemit, pre_j, post_j]
              rw [if_neg (show ¬ (k = 2 ∧ pk ≠ 1) by omega), if_neg (show ¬ (k = 1 ∧ nk ≠ 2) by omega), if_neg (show ¬ (k = 2 ∧ pk ≠ 1) by omega), if_neg (show ¬ (k = 3) by omega)]
              rfl
            have HW3 := HW
            obtain ⟨d0, d1, d2⟩ := HW3.out.c
            clear HW
            clear hnk hcn hq0 hT hlk hkT hk6 hm1 hbt hPN hemit hTl hpk hnt e2 k1 hlt2
            go_wp2_with fail
            refine (csay _ (Hr.out.below (HB.out.trans (HW3.out.bel.mono HB.out.size)))).mono ?_
            rintro e w4 ⟨rfl, hb4⟩
            have HW4 := hidden (HW3.out.below hb4)
            clear hb4 HW3 csay
            rw [HY.out]
            go_wp2_with (at_builtin; refine app_rw rfl (.tmp 116) (.tmp 120) rfl (HW4.out.alloc _) rfl _ _ (gap_of_new HI.out) rfl (by first | omega | (simp only [List.length_append, List.length_cons, List.length_nil]; omega)) (by simp) ?_)
            intro v5 w5 HW5
            obtain ⟨f0, f1, f2⟩ := HW5.out.c
            clear HW4
            go_wp2_with fail
            go_roundw
            case rel =>
              refine ⟨q + 1, by omega, by go_num, ?_, HW5.out.bel⟩
              have ho := HW5.out.own
              rw [Er.out, He.out]
              first | exact ho | simpa using ho
            case measure => simp [intOf]; omega
          · have zk1 : ((k : Int) == 1) = true := by simp; omega
            have zk2 : ((k : Int) == 2) = false := by simp; omega
            have zk3 : ((k : Int) == 3) = false := by simp; omega
            have zk4 : ((k : Int) == 4) = false := by simp; omega
            have zn2 : ((k : Int) != 2) = true := by simp; omega
            simp only [if_neg (show ¬ k = 4 by omega)] at csay HY
            have zj5 : ((k2 : Int) == 2) = false := by simp; omega
            have He : Hid (emit false P q (pcs p (k, a, m)) = [itx chn (pcs p (k, a, m)), bgn 2 false true, bk 0 0]) := by
              rw [hemit, pre_j, post_j]
              rw [if_neg (show ¬ (k = 2 ∧ pk ≠ 1) by omega), if_pos (show (k = 1 ∧ nk ≠ 2) by omega)]
              rfl
            have HW3 := HW
            obtain ⟨d0, d1, d2⟩ := HW3.out.c
            clear HW
            clear hnk hcn hq0 hT hlk hkT hk6 hm1 hbt hPN hemit hTl hpk hnt e2 k1 hlt2
            go_wp2_with fail
            refine (csay _ (Hr.out.below (HB.out.trans (HW3.out.bel.mono HB.out.size)))).mono ?_
            rintro e w4 ⟨rfl, hb4⟩
            have HW4 := hidden (HW3.out.below hb4)
            clear hb4 HW3 csay
            rw [HY.out]
            go_wp2_with (at_builtin; refine app_rw rfl (.tmp 116) (.tmp 120) rfl (HW4.out.alloc _) rfl _ _ (gap_of_new HI.out) rfl (by first | omega | (simp only [List.length_append, List.length_cons, List.length_nil]; omega)) (by simp) ?_)
            intro v5 w5 HW5
            obtain ⟨f0, f1, f2⟩ := HW5.out.c
            clear HW4
            go_wp2_with (at_builtin; refine app_rw rfl (.tmp 145) (.tmp 148) rfl (HW5.out.alloc _) rfl _ _ (gap_new (l := [bgn 2 false true, bk 0 0]) rfl (by simp) rfl) rfl (by first | omega | (simp only [List.length_append, List.length_cons, List.length_nil]; omega)) (by simp) ?_)
            intro v6 w6 HW6
            obtain ⟨g0, g1, g2⟩ := HW6.out.c
            clear HW5
            go_wp2_with fail
            go_roundw
            case rel =>
              refine ⟨q + 1, by omega, by go_num, ?_, HW6.out.bel⟩
              have ho := HW6.out.own
              rw [Er.out, He.out]
              first | exact ho | simpa using ho
            case measure => simp [intOf]; omega
        · by_cases k2 : k = 2
          · rcases hpk with ⟨g, _⟩ | ⟨r, ⟨k3, a3, m3⟩, hqr0, ht3, hpt⟩
            · have := hq0 k2; omega
            have hp1 : ∀ o, (wr.alloc o).cell? ⟨tg, r * 3, none⟩ = some (.int .u8 (k3 : Nat)) := fun o => by
              obtain ⟨g, c, e, _, x, _⟩ := hcn r _ ht3 o
              injection e with e1
              injection e1 with e1
              injection e1 with e1
              subst e1
              exact x
            have hqr : (q : Int) - 1 = (r : Int) := by omega
            have hrN : (r : Int) < (N : Int) := by omega
            have hpt : pk = k3 := hpt
            have hq00 : (0 : Int) < (q : Int) := by omega
            clear ht3
            by_cases e3 : k3 = 1
            · have zk1 : ((k : Int) == 1) = false := by simp; omega
              have zk2 : ((k : Int) == 2) = true := by simp; omega
              have zk3 : ((k : Int) == 3) = false := by simp; omega
              have zk4 : ((k : Int) == 4) = false := by simp; omega
              have zn2 : ((k : Int) != 2) = false := by simp; omega
              simp only [if_neg (show ¬ k = 4 by omega)] at csay HY
              have zj6 : ((k3 : Int) == 1) = true := by simp; omega
              have He : Hid (emit false P q (pcs p (k, a, m)) = [itx chn (pcs p (k, a, m))]) := by
                rw [hemit, pre_j, post_j]
                rw [if_neg (show ¬ (k = 2 ∧ pk ≠ 1) by omega), if_neg (show ¬ (k = 1 ∧ nk ≠ 2) by omega), if_neg (show ¬ (k = 2 ∧ pk ≠ 1) by omega), if_neg (show ¬ (k = 3) by omega)]
                rfl
              have HW3 := HW
              obtain ⟨d0, d1, d2⟩ := HW3.out.c
              clear HW
              clear hnk hcn hq0 hT hlk hkT hk6 hm1 hbt hPN hemit hTl hqr0 hpt e3 k1 k2
              go_wp2_with fail
              refine (csay _ (Hr.out.below (HB.out.trans (HW3.out.bel.mono HB.out.size)))).mono ?_
              rintro e w4 ⟨rfl, hb4⟩
              have HW4 := hidden (HW3.out.below hb4)
              clear hb4 HW3 csay
              rw [HY.out]
              go_wp2_with (at_builtin; refine app_rw rfl (.tmp 116) (.tmp 120) rfl (HW4.out.alloc _) rfl _ _ (gap_of_new HI.out) rfl (by first | omega | (simp only [List.length_append, List.length_cons, List.length_nil]; omega)) (by simp) ?_)
              intro v5 w5 HW5
              obtain ⟨f0, f1, f2⟩ := HW5.out.c
              clear HW4
              go_wp2_with fail
              go_roundw
              case rel =>
                refine ⟨q + 1, by omega, by go_num, ?_, HW5.out.bel⟩
                have ho := HW5.out.own
                rw [Er.out, He.out]
                first | exact ho | simpa using ho
              case measure => simp [intOf]; omega
            · have zk1 : ((k : Int) == 1) = false := by simp; omega
              have zk2 : ((k : Int) == 2) = true := by simp; omega
              have zk3 : ((k : Int) == 3) = false := by simp; omega
              have zk4 : ((k : Int) == 4) = false := by simp; omega
              have zn2 : ((k : Int) != 2) = false := by simp; omega
              simp only [if_neg (show ¬ k = 4 by omega)] at csay HY
              have zj6 : ((k3 : Int) == 1) = false := by simp; omega
              have He : Hid (emit false P q (pcs p (k, a, m)) = [bk 0 (-2), itx chn (pcs p (k, a, m)), en]) := by
                rw [hemit, pre_j, post_j]
                rw [if_pos (show (k = 2 ∧ pk ≠ 1) by omega), if_neg (show ¬ (k = 1 ∧ nk ≠ 2) by omega), if_pos (show (k = 2 ∧ pk ≠ 1) by omega)]
                rfl
              clear hnk hcn hq0 hT hlk hkT hk6 hm1 hbt hPN hemit hTl hqr0 hpt e3 k1 k2
              go_wp2_with (at_builtin; refine app_rw rfl (.tmp 103) (.tmp 105) rfl (HW.out.alloc _) rfl _ _ (gap_of_new2 (x := bk 0 (-2)) rfl) rfl (by omega) (by simp) ?_)
              intro v3 w3 HW3
              obtain ⟨d0, d1, d2⟩ := HW3.out.c
              clear HW
              go_wp2_with fail
              refine (csay _ (Hr.out.below (HB.out.trans (HW3.out.bel.mono HB.out.size)))).mono ?_
              rintro e w4 ⟨rfl, hb4⟩
              have HW4 := hidden (HW3.out.below hb4)
              clear hb4 HW3 csay
              rw [HY.out]
              go_wp2_with (at_builtin; refine app_rw rfl (.tmp 116) (.tmp 120) rfl (HW4.out.alloc _) rfl _ _ (gap_of_new HI.out) rfl (by first | omega | (simp only [List.length_append, List.length_cons, List.length_nil]; omega)) (by simp) ?_)
              intro v5 w5 HW5
              obtain ⟨f0, f1, f2⟩ := HW5.out.c
              clear HW4
              go_wp2_with (at_builtin; refine app_rw rfl (.tmp 158) (.tmp 160) rfl (HW5.out.alloc _) rfl _ _ (gap_of_new (x := en) rfl) rfl (by first | omega | (simp only [List.length_append, List.length_cons, List.length_nil]; omega)) (by simp) ?_)
              intro v6 w6 HW6
              obtain ⟨g0, g1, g2⟩ := HW6.out.c
              clear HW5
              go_wp2_with fail
              go_roundw
              case rel =>
                refine ⟨q + 1, by omega, by go_num, ?_, HW6.out.bel⟩
                have ho := HW6.out.own
                rw [Er.out, He.out]
                first | exact ho | simpa using ho
              case measure => simp [intOf]; omega
          · by_cases k3 : k = 3
            · have zk1 : ((k : Int) == 1) = false := by simp; omega
              have zk2 : ((k : Int) == 2) = false := by simp; omega
              have zk3 : ((k : Int) == 3) = true := by simp; omega
              have zk4 : ((k : Int) == 4) = false := by simp; omega
              have zn2 : ((k : Int) != 2) = true := by simp; omega
              simp only [if_neg (show ¬ k = 4 by omega)] at csay HY
              have He : Hid (emit false P q (pcs p (k, a, m)) = [itx chn (pcs p (k, a, m)), bk 1 0]) := by
                rw [hemit, pre_j, post_j]
                rw [if_neg (show ¬ (k = 2 ∧ pk ≠ 1) by omega), if_neg (show ¬ (k = 1 ∧ nk ≠ 2) by omega), if_neg (show ¬ (k = 2 ∧ pk ≠ 1) by omega), if_pos (show (k = 3) by omega)]
                rfl
              have HW3 := HW
              obtain ⟨d0, d1, d2⟩ := HW3.out.c
              clear HW
              clear hnk hcn hq0 hT hlk hkT hk6 hm1 hbt hPN hemit hTl hpk k1 k2 k3
              go_wp2_with fail
              refine (csay _ (Hr.out.below (HB.out.trans (HW3.out.bel.mono HB.out.size)))).mono ?_
              rintro e w4 ⟨rfl, hb4⟩
              have HW4 := hidden (HW3.out.below hb4)
              clear hb4 HW3 csay
              rw [HY.out]
              go_wp2_with (at_builtin; refine app_rw rfl (.tmp 116) (.tmp 120) rfl (HW4.out.alloc _) rfl _ _ (gap_of_new HI.out) rfl (by first | omega | (simp only [List.length_append, List.length_cons, List.length_nil]; omega)) (by simp) ?_)
              intro v5 w5 HW5
              obtain ⟨f0, f1, f2⟩ := HW5.out.c
              clear HW4
              go_wp2_with (at_builtin; refine app_rw rfl (.tmp 166) (.tmp 168) rfl (HW5.out.alloc _) rfl _ _ (gap_of_new (x := bk 1 0) rfl) rfl (by first | omega | (simp only [List.length_append, List.length_cons, List.length_nil]; omega)) (by simp) ?_)
              intro v6 w6 HW6
              obtain ⟨g0, g1, g2⟩ := HW6.out.c
              clear HW5
              go_wp2_with fail
              go_roundw
              case rel =>
                refine ⟨q + 1, by omega, by go_num, ?_, HW6.out.bel⟩
                have ho := HW6.out.own
                rw [Er.out, He.out]
                first | exact ho | simpa using ho
              case measure => simp [intOf]; omega
            · by_cases k4 : k = 4
              · have zk1 : ((k : Int) == 1) = false := by simp; omega
                have zk2 : ((k : Int) == 2) = false := by simp; omega
                have zk3 : ((k : Int) == 3) = false := by simp; omega
                have zk4 : ((k : Int) == 4) = true := by simp; omega
                have zn2 : ((k : Int) != 2) = true := by simp; omega
                simp only [if_pos (show k = 4 by omega)] at csay HY
                have He : Hid (emit false P q (pcs p (k, a, m)) = [itx chn (pcs p (k, a, m))]) := by
                  rw [hemit, pre_j, post_j]
                  rw [if_neg (show ¬ (k = 2 ∧ pk ≠ 1) by omega), if_neg (show ¬ (k = 1 ∧ nk ≠ 2) by omega), if_neg (show ¬ (k = 2 ∧ pk ≠ 1) by omega), if_neg (show ¬ (k = 3) by omega)]
                  rfl
                have HW3 := HW
                obtain ⟨d0, d1, d2⟩ := HW3.out.c
                clear HW
                clear hnk hcn hq0 hT hlk hkT hk6 hm1 hbt hPN hemit hTl hpk k1 k2 k3 k4
                go_wp2_with fail
                refine (csay _ (Hr.out.below (HB.out.trans (HW3.out.bel.mono HB.out.size)))).mono ?_
                rintro e w4 ⟨rfl, hb4⟩
                have HW4 := hidden (HW3.out.below hb4)
                clear hb4 HW3 csay
                rw [HY.out]
                go_wp2_with (at_builtin; refine app_rw rfl (.tmp 110) (.tmp 114) rfl (HW4.out.alloc _) rfl _ _ (gap_of_new HI.out) rfl (by first | omega | (simp only [List.length_append, List.length_cons, List.length_nil]; omega)) (by simp) ?_)
                intro v5 w5 HW5
                obtain ⟨f0, f1, f2⟩ := HW5.out.c
                clear HW4
                go_wp2_with fail
                go_roundw
                case rel =>
                  refine ⟨q + 1, by omega, by go_num, ?_, HW5.out.bel⟩
                  have ho := HW5.out.own
                  rw [Er.out, He.out]
                  first | exact ho | simpa using ho
                case measure => simp [intOf]; omega
              · have zk1 : ((k : Int) == 1) = false := by simp; omega
                have zk2 : ((k : Int) == 2) = false := by simp; omega
                have zk3 : ((k : Int) == 3) = false := by simp; omega
                have zk4 : ((k : Int) == 4) = false := by simp; omega
                have zn2 : ((k : Int) != 2) = true := by simp; omega
                simp only [if_neg (show ¬ k = 4 by omega)] at csay HY
                have He : Hid (emit false P q (pcs p (k, a, m)) = [itx chn (pcs p (k, a, m))]) := by
                  rw [hemit, pre_j, post_j]
                  rw [if_neg (show ¬ (k = 2 ∧ pk ≠ 1) by omega), if_neg (show ¬ (k = 1 ∧ nk ≠ 2) by omega), if_neg (show ¬ (k = 2 ∧ pk ≠ 1) by omega), if_neg (show ¬ (k = 3) by omega)]
                  rfl
                have HW3 := HW
                obtain ⟨d0, d1, d2⟩ := HW3.out.c
                clear HW
                clear hnk hcn hq0 hT hlk hkT hk6 hm1 hbt hPN hemit hTl hpk k1 k2 k3 k4
                go_wp2_with fail
                refine (csay _ (Hr.out.below (HB.out.trans (HW3.out.bel.mono HB.out.size)))).mono ?_
                rintro e w4 ⟨rfl, hb4⟩
                have HW4 := hidden (HW3.out.below hb4)
                clear hb4 HW3 csay
                rw [HY.out]
                go_wp2_with (at_builtin; refine app_rw rfl (.tmp 116) (.tmp 120) rfl (HW4.out.alloc _) rfl _ _ (gap_of_new HI.out) rfl (by first | omega | (simp only [List.length_append, List.length_cons, List.length_nil]; omega)) (by simp) ?_)
                intro v5 w5 HW5
                obtain ⟨f0, f1, f2⟩ := HW5.out.c
                clear HW4
                go_wp2_with fail
                go_roundw
                case rel =>
                  refine ⟨q + 1, by omega, by go_num, ?_, HW5.out.bel⟩
                  have ho := HW5.out.own
                  rw [Er.out, He.out]
                  first | exact ho | simpa using ho
                case measure => simp [intOf]; omega
      · have hqN : q = N := by omega
        have hlz : ¬ ((q : Int) < (N : Int)) := by omega
        have e : itR false P q = itms chn false 0 P := by
          rw [hqN, ← HN.out, show T.length = P.length by rw [← HP.out, List.length_map]]
          exact itR_all false P
        rw [e] at hown
        have Hown := hidden hown
        have Hbe := hidden hbe
        clear hqN e hown hbe
        go_wp2_with fail
        go_ret3
        exact ⟨⟨_, rfl, isItems_of Hown.out⟩, HB.out.trans (Hbe.out.mono HB.out.size)⟩
end Go.Proofs.PlatenTree
