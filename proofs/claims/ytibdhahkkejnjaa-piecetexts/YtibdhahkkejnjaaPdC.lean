/- Both tables side by side, cell by cell: a table told by the cells that its pieces stand for; what an act comes to. -/
import Derived.Test.YtibdhahkkejnjaaPcB
import Derived.Test.YtibdhahkkejnjaaPdB
namespace Go.Proofs.PlatenPiece.Two
open Go Go.RowKit Go.Proofs.PlatenPiece
set_option linter.unusedVariables false
set_option maxRecDepth 100000

theorem ins_pos {ps ps' : List Pc} {at' : Nat} {l : List Nat} {a : Int} (h : Ins ps at' l a ps') (hp : ∀ p ∈ ps, 0 < p.l.length) (h0 : 0 < l.length) : ∀ p ∈ ps', 0 < p.l.length := by
  obtain ⟨i, ps1, hc, h⟩ := h
  have hp1 := hc.pos hp
  intro p hq
  rcases h with ⟨_, q, rfl⟩ | ⟨_, _, r, q, _, _, rfl⟩
  · simp only [List.mem_append, List.mem_cons, List.not_mem_nil, or_false] at hq
    rcases hq with hq | rfl | hq
    · exact hp1 p (List.mem_of_mem_take hq)
    · exact h0
    · exact hp1 p (List.mem_of_mem_drop hq)
  · simp only [List.mem_append, List.mem_cons, List.not_mem_nil, or_false] at hq
    rcases hq with hq | rfl | hq
    · exact hp1 p (List.mem_of_mem_take hq)
    · simp only [List.length_append]; omega
    · exact hp1 p (List.mem_of_mem_drop hq)
theorem del_pos {ps ps' : List Pc} {at' n : Nat} (h : Del ps at' n ps') (hp : ∀ p ∈ ps, 0 < p.l.length) : ∀ p ∈ ps', 0 < p.l.length := by
  obtain ⟨i, ps1, j, ps2, h1, h2, hij, ht, rfl⟩ := h
  have hp2 := h2.pos (h1.pos hp)
  intro p hq
  rcases List.mem_append.1 hq with hq | hq
  · exact hp2 p (List.mem_of_mem_take hq)
  · exact hp2 p (List.mem_of_mem_drop hq)

/-- The table at T has the text l, and its pieces stand for the cells D; K is its number of bytes that came. -/
def Ty (B : Nat) (w : World) (T : Nat) (l : List Nat) (c : Nat) (O : Nat → Prop) (D : List Rc) (K : Int) : Prop :=
  ∃ pv ps, O = PlatenPiece.Own T pv ps ∧ Tab B w T pv ps (lenSum ps) K ∧ flat ps = l ∧ lenSum ps ≤ 65536 ∧ ps.length ≤ 4 * c + 1 ∧ (0 ≤ K ∧ K ≤ 65536 * (c : Int)) ∧ (∀ p ∈ ps, -196608 * (c : Int) ≤ p.k ∧ p.k ≤ 65536 * (c : Int)) ∧ B ≤ w.heap.size ∧ (∀ p ∈ ps, 0 < p.l.length) ∧ cellsAll ps = D
section
variable {B : Nat} {w w' : World} {T c c' : Nat} {l : List Nat} {O O' : Nat → Prop} {D : List Rc} {K : Int}
theorem Ty.x (h : Ty B w T l c O D K) : Tx B w T l c O := by
  obtain ⟨pv, ps, h0, hT, hf, h2, h3, h4, h5, h6, _⟩ := h
  exact ⟨pv, ps, K, h0, hT, hf, h2, h3, h4, h5, h6⟩
theorem Ty.own (h : Ty B w T l c O D K) : ∀ k, O k → B ≤ k ∧ k < w.heap.size := h.x.own
theorem Ty.same (h : Ty B w T l c O D K) (hs : w.heap.size ≤ w'.heap.size) (hb : ∀ k, O k → w'.heap[k]? = w.heap[k]?) : Ty B w' T l c O D K := by
  obtain ⟨pv, ps, rfl, hT, hf, h2, h3, h4, h5, h6, h7⟩ := h
  refine ⟨pv, ps, rfl, ⟨hT.low, (hb T (Or.inl rfl)).trans hT.head, row_same hT.row (fun k hk => hb k (Or.inr (Or.inl hk))), fun p hp => ⟨row_same (hT.good p hp).1 (fun k hk => hb k (Or.inr (Or.inr ⟨p, hp, hk⟩))), (hT.good p hp).2⟩, hT.apart⟩, hf, h2, h3, h4, h5, by omega, h7⟩
theorem Ty.keep (h : Ty B w T l c O D K) (hK : Kept O' w w') (ho : ∀ k, O k → ¬ O' k) : Ty B w' T l c O D K :=
  h.same hK.size (fun k hk => hK.block k (h.own k hk).2 (ho k hk))
theorem Ty.grown (h : Ty B w T l c O D K) (hg : w.grownBy w' none) : Ty B w' T l c O D K :=
  h.same hg.size (fun k hk => hg.block k (h.own k hk).2 (by simp))
theorem Ty.more (h : Ty B w T l c O D K) (hc : c ≤ c') : Ty B w T l c' O D K := by
  obtain ⟨pv, ps, rfl, hT, hf, h2, h3, h4, h5, h6, h7⟩ := h
  exact ⟨pv, ps, rfl, hT, hf, h2, by omega, by omega, fun p hp => by have := h5 p hp; omega, h6, h7⟩
theorem ty_pieces (h : Ty B w T l c O D K) :
    Calls Try.prog 17 #[.pointer (some ⟨T, 0, none⟩)] w fun e w' => e = .returned (.int .i64 (D.countP (·.f) : Nat)) ∧ w' = w := by
  obtain ⟨pv, ps, rfl, hT, _, _, _, _, _, _, hp, rfl⟩ := h
  rw [cells_count ps hp]
  exact pieces_tab B T pv ps _ K w hT
theorem ty_delete (h : Ty B w T l c O D K) (hc : c ≤ 4500) (at' n : Nat) (hat : at' + n ≤ l.length) :
    Calls Try.prog 46 #[.pointer (some ⟨T, 0, none⟩), .int .i64 at', .int .i64 n] w fun e w' => e = .returned (.int .i64 0) ∧ ∃ O', Ty B w' T (l.take at' ++ l.drop (at' + n)) (c + 1) O' (rdel D at' n) K ∧ Kept O w w' ∧ (∀ k, k < w.heap.size → O' k → O k) := by
  obtain ⟨pv, ps, rfl, hT, rfl, h2, h3, h4, h5, h6, h7, rfl⟩ := h
  rw [flat_len] at hat
  refine (delete_tab B T pv ps _ K at' n w hT h6 (by omega) rfl hat h2 (fun p hp => by have := h5 p hp; omega)).mono ?_
  rintro e w' ⟨rfl, pv', ps', hT', hD, hK, hO⟩
  have hsz : (lenSum ps' : Int) = (lenSum ps : Int) - (n : Int) := by
    have := congrArg List.length hD.flat
    rw [flat_len, List.length_append, List.length_take, List.length_drop, flat_len] at this
    omega
  exact ⟨rfl, _, ⟨pv', ps', rfl, by rw [hsz]; exact hT', hD.flat, by omega, by have := hD.len; omega, by omega, fun p hp => by have := hD.ks h2 h5 p hp; omega, by have := hK.size; omega, del_pos hD h7, hD.cells h7⟩, hK, hO⟩
theorem ty_insert (h : Ty B w T l c O D K) (hc : c ≤ 4500) (at' : Nat) (hat : at' ≤ l.length) (m : List Nat) (hm : l.length + m.length ≤ 65536) (h0 : 0 < m.length) (v : Value) (hv : PlatenPiece.Src w v m) (ho : PlatenPiece.Outside O v) :
    Calls Try.prog 43 #[.pointer (some ⟨T, 0, none⟩), .int .i64 at', v] w fun e w' => e = .returned (.int .i64 0) ∧ ∃ O', Ty B w' T (l.take at' ++ (m ++ l.drop at')) (c + 1) O' (rinsL D at' m K) (K + (m.length : Int)) ∧ Kept O w w' ∧ (∀ k, k < w.heap.size → O' k → O k) := by
  obtain ⟨pv, ps, rfl, hT, rfl, h2, h3, h4, h5, h6, h7, rfl⟩ := h
  rw [flat_len] at hat hm
  refine (insert_tab B T pv ps _ K at' v m w hT h6 (by omega) rfl hat hm h0 hv ho (fun p hp => by have := h5 p hp; omega) (by omega)).mono ?_
  rintro e w' ⟨rfl, pv', ps', hT', hI, hK, hO⟩
  have hsz := hI.sum hat
  refine ⟨rfl, _, ⟨pv', ps', rfl, by rw [hsz]; push_cast; exact hT', hI.flat, by omega, by have := hI.len; omega, by omega, fun p hp => by
    have := hI.ks (lo := -196608 * (c : Int)) (hi := 65536 * ((c + 1 : Nat) : Int)) h2 (fun p hp => by have := h5 p hp; omega) (by omega) (by omega) (by omega) p hp
    omega, by have := hK.size; omega, ins_pos hI h7 h0, ?_⟩, hK, hO⟩
  unfold rinsL
  rw [if_neg (by omega)]
  exact hI.cells h7 h4.1
end

/-- Both tables, apart from each other; all below B is as it was at first. -/
structure TR (B : Nat) (wB w : World) (T M : Nat) (l : List Nat) (c : Nat) (O : Nat → Prop) (lv : Value) (cs : List Rc) (N : Int) (D : List Rc) (K : Int) : Prop where
  tx : Ty B w T l c O D K
  rt : RTab B w M lv cs N
  dj : ∀ k, O k → ¬ ROwn M lv k
  bl : Below B wB w
  bs : B ≤ w.heap.size
section
variable {B : Nat} {wB w w' : World} {T M : Nat} {l l' : List Nat} {c c' : Nat} {O O' : Nat → Prop} {lv lv' : Value} {cs cs' : List Rc} {N N' : Int} {D D' : List Rc} {K K' : Int}
theorem TR.p (h : TR B wB w T M l c O lv cs N D K) (ht : Ty B w' T l' c' O' D' K') (hk : Kept O w w') (hs : ∀ k, k < w.heap.size → O' k → O k) : TR B wB w' T M l' c' O' lv cs N D' K' :=
  ⟨ht, h.rt.same (fun k hr => hk.block k (h.rt.own k hr).2 (fun ho => h.dj k ho hr)), fun k ho hr => h.dj k (hs k (h.rt.own k hr).2 ho) hr, below_kept' h.bl h.bs hk (fun k ho => (h.tx.own k ho).1), Nat.le_trans h.bs hk.size⟩
theorem TR.r (h : TR B wB w T M l c O lv cs N D K) (ht : RTab B w' M lv' cs' N') (hk : Kept (ROwn M lv) w w') (hs : ∀ k, k < w.heap.size → lv'.ownBlock = some k → lv.ownBlock = some k) : TR B wB w' T M l c O lv' cs' N' D K :=
  ⟨h.tx.keep hk (fun k ho => h.dj k ho), ht, fun k ho hr => by
    have hlt := (h.tx.own k ho).2
    rcases hr with hr | hr
    · exact h.dj k ho (Or.inl hr)
    · exact h.dj k ho (Or.inr (hs k hlt hr)), below_kept' h.bl h.bs hk (fun k ho => (h.rt.own k ho).1), Nat.le_trans h.bs hk.size⟩
theorem TR.grown (h : TR B wB w T M l c O lv cs N D K) (hg : w.grownBy w' none) : TR B wB w' T M l c O lv cs N D K :=
  ⟨h.tx.grown hg, h.rt.grown hg, h.dj, h.bl.trans ⟨hg.os, hg.tape, hg.output, hg.size, fun k hk => hg.block k (by have := h.bs; omega) (by simp)⟩, Nat.le_trans h.bs hg.size⟩
theorem TR.more (h : TR B wB w T M l c O lv cs N D K) (hc : c ≤ c') : TR B wB w T M l c' O lv cs N D K := ⟨h.tx.more hc, h.rt, h.dj, h.bl, h.bs⟩
end

/-- What an act comes to. -/
def PAct (B : Nat) (wB : World) (T M : Nat) (l : List Nat) (c : Nat) (N : Int) (q : Ending) (w' : World) : Prop := ∃ l' O' lv' cs' N', q = .returned (.bool true) ∧ TR B wB w' T M l' (c + 1) O' lv' cs' N' cs' N' ∧ cs'.map (·.c) = l' ∧ (∀ x ∈ l', x < 256) ∧ l'.length ≤ l.length + 100 ∧ 0 ≤ N' ∧ N' ≤ N + 100
/-- Two answers of Insert or Delete. -/
structure Both (B : Nat) (wB : World) (T M : Nat) (l : List Nat) (c : Nat) (O : Nat → Prop) (lv : Value) (cs : List Rc) (N : Int) (f g : Nat) (A A' : Array Value) : Prop where
  run : ∀ w, TR B wB w T M l c O lv cs N cs N → ∃ code l' cs' N', cs'.map (·.c) = l' ∧ (∀ x ∈ l', x < 256) ∧ l'.length ≤ l.length + 100 ∧ 0 ≤ N' ∧ N' ≤ N + 100 ∧
    (Calls Try.prog f A w fun q w1 => q = .returned (.int .i64 code) ∧ ∃ O', TR B wB w1 T M l' (c + 1) O' lv cs N cs' N' ∧ Kept O w w1) ∧
    (∀ w1 O', TR B wB w1 T M l' (c + 1) O' lv cs N cs' N' → Calls Try.prog g A' w1 fun q w2 => q = .returned (.int .i64 code) ∧ ∃ lv', TR B wB w2 T M l' (c + 1) O' lv' cs' N' cs' N' ∧ Kept (ROwn M lv) w1 w2)
section
variable {wB w w' : World} {T M : Nat} {l : List Nat} {c : Nat} {O : Nat → Prop} {lv : Value} {cs : List Rc} {N : Int}

theorem both_insert (a : AP) (ha : a.ok wB) (hp : a.p.length ≤ 100) (he : cs.map (·.c) = l) (hb : ∀ x ∈ l, x < 256) (hl : l.length ≤ 3000) (hc : c ≤ 4000) (hN : 0 ≤ N ∧ N ≤ 10000) :
    Both wB.heap.size wB T M l c O lv cs N 43 45 #[.pointer (some ⟨T, 0, none⟩), .int .i64 a.at', a.pv] #[.pointer (some ⟨M, 0, none⟩), .int .i64 a.at', a.pv] := by
  have hcl : cs.length = l.length := by rw [← he, List.length_map]
  refine ⟨fun w h => ?_⟩
  by_cases hy : 0 ≤ a.at' ∧ a.at' ≤ (l.length : Int)
  · obtain ⟨i, hi⟩ : ∃ i : Nat, a.at' = i := ⟨a.at'.toNat, by omega⟩
    rw [hi] at hy ⊢
    refine ⟨0, l.take i ++ (a.p ++ l.drop i), rinsL cs i a.p N, N + (a.p.length : Int), ?_, ?_, ?_, by omega, by omega, ?_, ?_⟩
    · rw [rins_c, he]
    · intro x hx
      simp only [List.mem_append] at hx
      rcases hx with hx | hx | hx
      · exact hb x (List.mem_of_mem_take hx)
      · exact ha.2.2.2.1 x hx
      · exact hb x (List.mem_of_mem_drop hx)
    · rw [List.length_append, List.length_append, List.length_take, List.length_drop]; omega
    · rcases Nat.eq_zero_or_pos a.p.length with h0 | h0
      · obtain ⟨va, vc, hv⟩ := src_slice ha.2.2.2.2
        rw [hv, h0]
        refine (tx_insert0 h.tx.x (by omega) i (by omega) va vc).mono ?_
        rintro q w1 ⟨rfl, rfl⟩
        refine ⟨rfl, O, ?_, Kept.refl _ _⟩
        rw [List.length_eq_zero_iff.1 h0, List.nil_append, List.take_append_drop]
        have e : N + ((0 : Nat) : Int) = N := by simp
        rw [e]
        exact h.more (by omega)
      · have hs := ha.2.2.2.2.below h.bl
        refine (ty_insert h.tx (by omega) i (by omega) a.p (by omega) h0 a.pv hs (fun k hk ho => ?_)).mono ?_
        · have h1 := (h.tx.own k ho).1
          rcases ha.2.2.2.2 with ⟨_, e⟩ | ⟨ad, cap, e, hcell⟩
          · rw [e] at h0; simp at h0
          · rw [e] at hk
            simp only [Value.ownBlock, Option.some.injEq] at hk
            have h2 := hcell 0 (.int .u8 (a.p[0] : Nat)) (by simp [bytesV, List.getElem?_eq_getElem h0])
            have h3 := World.block_lt_of_cell? _ _ h2
            have h4 : (ad.add 0).block = ad.block := by unfold Addr.add; split <;> rfl
            omega
        · rintro q w1 ⟨rfl, O', h1, h2, h3⟩
          exact ⟨rfl, O', h.p h1 h2 h3, h2⟩
    · intro w1 O' h1
      refine (rinsert wB.heap.size M lv cs N i a.pv a.p w1 h1.rt (by omega) (by omega) h1.bs (by omega) (ha.2.2.2.2.below h1.bl) (fun ad n cc e h0 ho => ?_)).mono ?_
      · have h1' := (h1.rt.own _ ho).1
        rcases ha.2.2.2.2 with ⟨_, e'⟩ | ⟨ad', cap, e', hcell⟩
        · rw [e'] at h0; simp at h0
        · rw [e] at e'
          simp only [Value.slice.injEq, Option.some.injEq] at e'
          obtain ⟨rfl, _⟩ := e'
          have h2 := hcell 0 (.int .u8 (a.p[0] : Nat)) (by simp [bytesV, List.getElem?_eq_getElem h0])
          have h3 := World.block_lt_of_cell? _ _ h2
          have h4 : (ad.add 0).block = ad.block := by unfold Addr.add; split <;> rfl
          omega
      · rintro q w2 ⟨rfl, lv', hT, hK, hS⟩
        exact ⟨rfl, lv', h1.r hT hK hS, hK⟩
  · refine ⟨1, l, cs, N, he, hb, by omega, hN.1, by omega, ?_, ?_⟩
    · refine (insert_bad _ (l.length : Int) a.at' a.pv w (Or.inr ⟨T, rfl⟩) (tx_len h.tx.x) (by omega) (by omega) (Or.inl hy)).mono ?_
      rintro q w1 ⟨rfl, rfl⟩
      exact ⟨rfl, O, h.more (by omega), Kept.refl _ _⟩
    · intro w1 O' h1
      refine (rinsert_bad wB.heap.size M lv cs N a.at' a.pv w1 h1.rt (by rw [hcl]; exact hy)).mono ?_
      rintro q w2 ⟨rfl, rfl⟩
      exact ⟨rfl, lv, h1, Kept.refl _ _⟩
theorem both_delete (a : AP) (he : cs.map (·.c) = l) (hb : ∀ x ∈ l, x < 256) (hl : l.length ≤ 3000) (hc : c ≤ 4000) (hN : 0 ≤ N ∧ N ≤ 10000) :
    Both wB.heap.size wB T M l c O lv cs N 46 47 #[.pointer (some ⟨T, 0, none⟩), .int .i64 a.at', .int .i64 a.n] #[.pointer (some ⟨M, 0, none⟩), .int .i64 a.at', .int .i64 a.n] := by
  have hcl : cs.length = l.length := by rw [← he, List.length_map]
  refine ⟨fun w h => ?_⟩
  by_cases hy : 0 ≤ a.at' ∧ a.at' ≤ (l.length : Int) ∧ 0 ≤ a.n ∧ a.n ≤ (l.length : Int) - a.at'
  · obtain ⟨i, hi⟩ : ∃ i : Nat, a.at' = i := ⟨a.at'.toNat, by omega⟩
    obtain ⟨m, hm⟩ : ∃ m : Nat, a.n = m := ⟨a.n.toNat, by omega⟩
    rw [hi, hm] at hy ⊢
    refine ⟨0, l.take i ++ l.drop (i + m), rdel cs i m, N, ?_, ?_, ?_, hN.1, by omega, ?_, ?_⟩
    · rw [rdel_c, he]
    · intro x hx
      rcases List.mem_append.1 hx with hx | hx
      · exact hb x (List.mem_of_mem_take hx)
      · exact hb x (List.mem_of_mem_drop hx)
    · rw [List.length_append, List.length_take, List.length_drop]; omega
    · refine (ty_delete h.tx (by omega) i m (by omega)).mono ?_
      rintro q w1 ⟨rfl, O', h1, h2, h3⟩
      exact ⟨rfl, O', h.p h1 h2 h3, h2⟩
    · intro w1 O' h1
      refine (rdelete wB.heap.size M lv cs N i m w1 h1.rt (by omega) (by omega) h1.bs).mono ?_
      rintro q w2 ⟨rfl, lv', hT, hK, hS⟩
      exact ⟨rfl, lv', h1.r hT hK (fun k hk q => by have := hS k q; omega), hK⟩
  · refine ⟨1, l, cs, N, he, hb, by omega, hN.1, by omega, ?_, ?_⟩
    · refine (tx_delete_bad h.tx.x a.at' a.n hy).mono ?_
      rintro q w1 ⟨rfl, rfl⟩
      exact ⟨rfl, O, h.more (by omega), Kept.refl _ _⟩
    · intro w1 O' h1
      refine (rdelete_bad wB.heap.size M lv cs N a.at' a.n w1 h1.rt (by omega) (by rw [hcl]; exact hy)).mono ?_
      rintro q w2 ⟨rfl, rfl⟩
      exact ⟨rfl, lv, h1, Kept.refl _ _⟩

set_option maxHeartbeats 4000000 in
theorem doesP (h : TR wB.heap.size wB w T M l c O lv cs N cs N) (he : cs.map (·.c) = l) (hb : ∀ x ∈ l, x < 256) (hl : l.length ≤ 3000) (hc : c ≤ 4000) (hN : 0 ≤ N ∧ N ≤ 10000) (a : AP) (ha : a.ok wB) (hp : a.p.length ≤ 100) :
    Calls Try.prog 19 #[.pointer (some ⟨T, 0, none⟩), .pointer (some ⟨M, 0, none⟩), .agg #[.int .u8 (a.d : Nat), .int .i64 a.at', .int .i64 a.n, a.pv]] w fun q w' => PAct wB.heap.size wB T M l c N q w' := by
  have hcl : cs.length = l.length := by rw [← he, List.length_map]
  have BI := hidden (both_insert (T := T) (M := M) (O := O) (lv := lv) a ha hp he hb hl hc hN)
  have BD := hidden (both_delete (wB := wB) (T := T) (M := M) (O := O) (lv := lv) a he hb hl hc hN)
  have hg0 := grownBy_alloc w (.cells #[.int .u8 (a.d : Nat), .int .i64 a.at', .int .i64 a.n, a.pv] 35)
  have hbx : (w.alloc (.cells #[.int .u8 (a.d : Nat), .int .i64 a.at', .int .i64 a.n, a.pv] 35)).heap[w.heap.size]? = some (.cells #[.int .u8 (a.d : Nat), .int .i64 a.at', .int .i64 a.n, a.pv] 35 (0, 0)) := heap_alloc_new _ _
  have HT := hidden (h.grown hg0)
  have HBX := hidden hbx
  have HnO : Hid (∀ k, O k → k < w.heap.size) := fun k hk => (h.tx.own k hk).2
  have HnR : Hid (∀ k, ROwn M lv k → k < w.heap.size) := fun k hk => (h.rt.own k hk).2
  have He := hidden he
  have Hb := hidden hb
  obtain ⟨qa, qc, hq⟩ := src_slice ha.2.2.2.2
  obtain ⟨pl, hpl⟩ : ∃ pl, a.p.length = pl := ⟨_, rfl⟩
  rw [hpl] at hq
  obtain ⟨d3, hd3, hd4⟩ : ∃ d3 : Nat, (a.d : Int).tmod 3 = (d3 : Int) ∧ d3 < 3 := ⟨a.d % 3, by rw [Int.tmod_eq_emod_of_nonneg (by omega)]; push_cast; rfl, Nat.mod_lt _ (by decide)⟩
  rw [hq] at BI HBX ⊢
  rw [hq] at HT
  clear h he hb hg0 hbx hpl
  by_cases h0 : d3 = 0
  · have h0' : ((d3 : Int) = 0) := by omega
    clear h0
    go_enter Try.func19, Try.ntmps19
    go_wp2_with fail
    have HTd := hidden (HT.out.grown (grown_drew' _))
    have HBd : Hid ((w.alloc (.cells #[.int .u8 (a.d : Nat), .int .i64 a.at', .int .i64 a.n, .slice qa pl qc] 35)).drew.heap[w.heap.size]? = some (.cells #[.int .u8 (a.d : Nat), .int .i64 a.at', .int .i64 a.n, .slice qa pl qc] 35 (0, 0))) := HBX.out
    have HS : Hid (∀ u : World, u.heap[w.heap.size]? = some (.cells #[.int .u8 (a.d : Nat), .int .i64 a.at', .int .i64 a.n, .slice qa pl qc] 35 (0, 0)) → (fun u : World => u.cell? ⟨w.heap.size, 1, none⟩ = some (.int .i64 a.at') ∧ u.cell? ⟨w.heap.size, 3, none⟩ = some (.slice qa pl qc)) u) := fun u hu => ⟨by simp only [World.cell?, hu]; rfl, by simp only [World.cell?, hu]; rfl⟩
    refine wp_region_held_drew (S := (fun u : World => u.cell? ⟨w.heap.size, 1, none⟩ = some (.int .i64 a.at') ∧ u.cell? ⟨w.heap.size, 3, none⟩ = some (.slice qa pl qc))) (by kernel_rfl) (HS.out _ HBd.out) (fun hHeld => ?_)
    generalize (w.alloc (.cells #[.int .u8 (a.d : Nat), .int .i64 a.at', .int .i64 a.n, .slice qa pl qc] 35)).drew = V at *
    refine take_dst 0 (some 14) rfl rfl (by kernel_rfl) (by kernel_rfl) (by kernel_rfl) (fun _ _ _ h => h) (v := ?_) (Or.inl ⟨by rfl, ?_⟩) (by assumption) ?_
    rotate_left
    · (intro w hSw; (try dsimp only at hSw); go_simp; try with_reducible rfl)
    simp only [Act.put, List.setIfInBounds_toArray, List.set_cons_zero, List.set_cons_succ]
    refine take_dst 1 (some 15) rfl rfl (by kernel_rfl) (by kernel_rfl) (by kernel_rfl) (fun _ _ _ h => h) (v := ?_) (Or.inl ⟨by rfl, ?_⟩) (by assumption) ?_
    rotate_left
    · (intro w hSw; (try dsimp only at hSw); go_simp; try with_reducible rfl)
    simp only [Act.put, List.setIfInBounds_toArray, List.set_cons_zero, List.set_cons_succ]
    refine take_dst 2 (some 16) rfl rfl (by kernel_rfl) (by kernel_rfl) (by kernel_rfl) (fun _ _ _ h => h) (v := ?_) (Or.inl ⟨by rfl, ?_⟩) (by assumption) ?_
    rotate_left
    · (intro w hSw; (try dsimp only at hSw); go_simp; try with_reducible rfl)
    simp only [Act.put, List.setIfInBounds_toArray, List.set_cons_zero, List.set_cons_succ]
    refine take_dst 3 (some 17) rfl rfl (by kernel_rfl) (by kernel_rfl) (by kernel_rfl) (fun _ _ _ h => h) (v := ?_) (Or.inl ⟨by rfl, ?_⟩) (by assumption) ?_
    rotate_left
    · (intro w hSw; (try dsimp only at hSw); go_simp; try with_reducible rfl)
    simp only [Act.put, List.setIfInBounds_toArray, List.set_cons_zero, List.set_cons_succ]
    refine take_dst 4 (some 18) rfl rfl (by kernel_rfl) (by kernel_rfl) (by kernel_rfl) (fun _ _ _ h => h) (v := ?_) (Or.inl ⟨by rfl, ?_⟩) (by assumption) ?_
    rotate_left
    · (intro w hSw; (try dsimp only at hSw); go_simp; try with_reducible rfl)
    simp only [Act.put, List.setIfInBounds_toArray, List.set_cons_zero, List.set_cons_succ]
    refine take_dst 6 (some 20) rfl rfl (by kernel_rfl) (by kernel_rfl) (by kernel_rfl) (fun _ _ _ h => h) (v := ?_) (Or.inl ⟨by rfl, ?_⟩) (by assumption) ?_
    rotate_left
    · (intro w hSw; (try dsimp only at hSw); go_simp; try with_reducible rfl)
    simp only [Act.put, List.setIfInBounds_toArray, List.set_cons_zero, List.set_cons_succ]
    refine take_dst 7 (some 21) rfl rfl (by kernel_rfl) (by kernel_rfl) (by kernel_rfl) (fun _ _ _ h => h) (v := ?_) (Or.inl ⟨by rfl, ?_⟩) (by assumption) ?_
    rotate_left
    · (intro w hSw; (try dsimp only at hSw); go_simp; try with_reducible rfl)
    simp only [Act.put, List.setIfInBounds_toArray, List.set_cons_zero, List.set_cons_succ]
    refine take_dst 8 (some 22) rfl rfl (by kernel_rfl) (by kernel_rfl) (by kernel_rfl) (fun _ _ _ h => h) (v := ?_) (Or.inl ⟨by rfl, ?_⟩) (by assumption) ?_
    rotate_left
    · (intro w hSw; (try dsimp only at hSw); go_simp; try with_reducible rfl)
    simp only [Act.put, List.setIfInBounds_toArray, List.set_cons_zero, List.set_cons_succ]
    refine take_dst 9 (some 23) rfl rfl (by kernel_rfl) (by kernel_rfl) (by kernel_rfl) (fun _ _ _ h => h) (v := ?_) (Or.inl ⟨by rfl, ?_⟩) (by assumption) ?_
    rotate_left
    · (intro w hSw; (try dsimp only at hSw); go_simp; try with_reducible rfl)
    simp only [Act.put, List.setIfInBounds_toArray, List.set_cons_zero, List.set_cons_succ]
    refine take_dst 10 (some 24) rfl rfl (by kernel_rfl) (by kernel_rfl) (by kernel_rfl) (fun _ _ _ h => h) (v := ?_) (Or.inl ⟨by rfl, ?_⟩) (by assumption) ?_
    rotate_left
    · (intro w hSw; (try dsimp only at hSw); go_simp; try with_reducible rfl)
    simp only [Act.put, List.setIfInBounds_toArray, List.set_cons_zero, List.set_cons_succ]
    obtain ⟨code, l', cs', N', k1, k2, k3, k4, k5, r1, r2⟩ := BI.out.run V HTd.out
    have R1 := hidden r1
    have R2 := hidden r2
    have K1 := hidden k1
    have K2 := hidden k2
    clear r1 r2 k1 k2
    refine wpAnyH_ready (rs := [5]) (by kernel_rfl) (by simp) ?_
    refine AllReadyH.cons rfl (fun K hK => ?_) AllReadyH.nil
    go_simp
    refine R1.out.mono ?_
    rintro q v1 ⟨rfl, O1, ht1, hkp1⟩
    have HV1 := hidden ht1
    have HB1 : Hid (v1.heap[w.heap.size]? = _) := (hkp1.block w.heap.size (Array.getElem?_eq_some_iff.1 HBd.out).1 (fun q => by have := HnO.out _ q; omega)).trans HBd.out
    clear ht1 hkp1
    refine hK.out _ _ (HS.out _ HB1.out) (fun hHeld1 => ?_)
    clear hK K hHeld
    refine wpAnyH_ready (rs := [11]) (by kernel_rfl) (by simp) ?_
    refine AllReadyH.cons rfl (fun K hK => ?_) AllReadyH.nil
    go_simp
    refine (R2.out v1 O1 HV1.out).mono ?_
    rintro q v2 ⟨rfl, lv2, ht2, hkp2⟩
    have HV2 := hidden ht2
    have HB2 : Hid (v2.heap[w.heap.size]? = _) := (hkp2.block w.heap.size (Array.getElem?_eq_some_iff.1 HB1.out).1 (fun q => by have := HnR.out _ q; omega)).trans HB1.out
    clear ht2 hkp2
    refine hK.out _ _ (HS.out _ HB2.out) (fun hHeld2 => ?_)
    clear hK K hHeld1
    refine take_dst 12 (some 26) rfl rfl (by kernel_rfl) (by kernel_rfl) (by kernel_rfl) (fun _ _ _ h => h) (v := ?_) (Or.inl ⟨by rfl, ?_⟩) (by assumption) ?_
    rotate_left
    · (intro w hSw; (try dsimp only at hSw); go_simp; try with_reducible rfl)
    simp only [Act.put, List.setIfInBounds_toArray, List.set_cons_zero, List.set_cons_succ]
    refine take_dst 13 (some 6) rfl rfl (by kernel_rfl) (by kernel_rfl) (by kernel_rfl) (fun _ _ _ h => h) (v := ?_) (Or.inl ⟨by rfl, ?_⟩) (by assumption) ?_
    rotate_left
    · (intro w hSw; (try dsimp only at hSw); go_simp; try with_reducible rfl)
    simp only [Act.put, List.setIfInBounds_toArray, List.set_cons_zero, List.set_cons_succ]
    refine wpAnyH_done (by kernel_rfl) ?_ _
    clear hHeld2 HB2 HB1 HBd HS
    go_wp2
    go_ret
    exact ⟨l', O1, lv2, cs', N', rfl, HV2.out, K1.out, K2.out, k3, k4, k5⟩
  · have h0' : ¬ ((d3 : Int) = 0) := by omega
    by_cases h1 : d3 = 1
    · have h1' : ((d3 : Int) = 1) := by omega
      clear h1
      go_enter Try.func19, Try.ntmps19
      go_wp2_with fail
      have HTd := hidden (HT.out.grown (grown_drew' _))
      have HBd : Hid ((w.alloc (.cells #[.int .u8 (a.d : Nat), .int .i64 a.at', .int .i64 a.n, .slice qa pl qc] 35)).drew.heap[w.heap.size]? = some (.cells #[.int .u8 (a.d : Nat), .int .i64 a.at', .int .i64 a.n, .slice qa pl qc] 35 (0, 0))) := HBX.out
      have HS : Hid (∀ u : World, u.heap[w.heap.size]? = some (.cells #[.int .u8 (a.d : Nat), .int .i64 a.at', .int .i64 a.n, .slice qa pl qc] 35 (0, 0)) → (fun u : World => u.cell? ⟨w.heap.size, 1, none⟩ = some (.int .i64 a.at') ∧ u.cell? ⟨w.heap.size, 2, none⟩ = some (.int .i64 a.n)) u) := fun u hu => ⟨by simp only [World.cell?, hu]; rfl, by simp only [World.cell?, hu]; rfl⟩
      refine wp_region_held_drew (S := (fun u : World => u.cell? ⟨w.heap.size, 1, none⟩ = some (.int .i64 a.at') ∧ u.cell? ⟨w.heap.size, 2, none⟩ = some (.int .i64 a.n))) (by kernel_rfl) (HS.out _ HBd.out) (fun hHeld => ?_)
      generalize (w.alloc (.cells #[.int .u8 (a.d : Nat), .int .i64 a.at', .int .i64 a.n, .slice qa pl qc] 35)).drew = V at *
      refine take_dst 0 (some 29) rfl rfl (by kernel_rfl) (by kernel_rfl) (by kernel_rfl) (fun _ _ _ h => h) (v := ?_) (Or.inl ⟨by rfl, ?_⟩) (by assumption) ?_
      rotate_left
      · (intro w hSw; (try dsimp only at hSw); go_simp; try with_reducible rfl)
      simp only [Act.put, List.setIfInBounds_toArray, List.set_cons_zero, List.set_cons_succ]
      refine take_dst 1 (some 30) rfl rfl (by kernel_rfl) (by kernel_rfl) (by kernel_rfl) (fun _ _ _ h => h) (v := ?_) (Or.inl ⟨by rfl, ?_⟩) (by assumption) ?_
      rotate_left
      · (intro w hSw; (try dsimp only at hSw); go_simp; try with_reducible rfl)
      simp only [Act.put, List.setIfInBounds_toArray, List.set_cons_zero, List.set_cons_succ]
      refine take_dst 2 (some 31) rfl rfl (by kernel_rfl) (by kernel_rfl) (by kernel_rfl) (fun _ _ _ h => h) (v := ?_) (Or.inl ⟨by rfl, ?_⟩) (by assumption) ?_
      rotate_left
      · (intro w hSw; (try dsimp only at hSw); go_simp; try with_reducible rfl)
      simp only [Act.put, List.setIfInBounds_toArray, List.set_cons_zero, List.set_cons_succ]
      refine take_dst 3 (some 32) rfl rfl (by kernel_rfl) (by kernel_rfl) (by kernel_rfl) (fun _ _ _ h => h) (v := ?_) (Or.inl ⟨by rfl, ?_⟩) (by assumption) ?_
      rotate_left
      · (intro w hSw; (try dsimp only at hSw); go_simp; try with_reducible rfl)
      simp only [Act.put, List.setIfInBounds_toArray, List.set_cons_zero, List.set_cons_succ]
      refine take_dst 4 (some 33) rfl rfl (by kernel_rfl) (by kernel_rfl) (by kernel_rfl) (fun _ _ _ h => h) (v := ?_) (Or.inl ⟨by rfl, ?_⟩) (by assumption) ?_
      rotate_left
      · (intro w hSw; (try dsimp only at hSw); go_simp; try with_reducible rfl)
      simp only [Act.put, List.setIfInBounds_toArray, List.set_cons_zero, List.set_cons_succ]
      refine take_dst 6 (some 35) rfl rfl (by kernel_rfl) (by kernel_rfl) (by kernel_rfl) (fun _ _ _ h => h) (v := ?_) (Or.inl ⟨by rfl, ?_⟩) (by assumption) ?_
      rotate_left
      · (intro w hSw; (try dsimp only at hSw); go_simp; try with_reducible rfl)
      simp only [Act.put, List.setIfInBounds_toArray, List.set_cons_zero, List.set_cons_succ]
      refine take_dst 7 (some 36) rfl rfl (by kernel_rfl) (by kernel_rfl) (by kernel_rfl) (fun _ _ _ h => h) (v := ?_) (Or.inl ⟨by rfl, ?_⟩) (by assumption) ?_
      rotate_left
      · (intro w hSw; (try dsimp only at hSw); go_simp; try with_reducible rfl)
      simp only [Act.put, List.setIfInBounds_toArray, List.set_cons_zero, List.set_cons_succ]
      refine take_dst 8 (some 37) rfl rfl (by kernel_rfl) (by kernel_rfl) (by kernel_rfl) (fun _ _ _ h => h) (v := ?_) (Or.inl ⟨by rfl, ?_⟩) (by assumption) ?_
      rotate_left
      · (intro w hSw; (try dsimp only at hSw); go_simp; try with_reducible rfl)
      simp only [Act.put, List.setIfInBounds_toArray, List.set_cons_zero, List.set_cons_succ]
      refine take_dst 9 (some 38) rfl rfl (by kernel_rfl) (by kernel_rfl) (by kernel_rfl) (fun _ _ _ h => h) (v := ?_) (Or.inl ⟨by rfl, ?_⟩) (by assumption) ?_
      rotate_left
      · (intro w hSw; (try dsimp only at hSw); go_simp; try with_reducible rfl)
      simp only [Act.put, List.setIfInBounds_toArray, List.set_cons_zero, List.set_cons_succ]
      refine take_dst 10 (some 39) rfl rfl (by kernel_rfl) (by kernel_rfl) (by kernel_rfl) (fun _ _ _ h => h) (v := ?_) (Or.inl ⟨by rfl, ?_⟩) (by assumption) ?_
      rotate_left
      · (intro w hSw; (try dsimp only at hSw); go_simp; try with_reducible rfl)
      simp only [Act.put, List.setIfInBounds_toArray, List.set_cons_zero, List.set_cons_succ]
      obtain ⟨code, l', cs', N', k1, k2, k3, k4, k5, r1, r2⟩ := BD.out.run V HTd.out
      have R1 := hidden r1
      have R2 := hidden r2
      have K1 := hidden k1
      have K2 := hidden k2
      clear r1 r2 k1 k2
      refine wpAnyH_ready (rs := [5]) (by kernel_rfl) (by simp) ?_
      refine AllReadyH.cons rfl (fun K hK => ?_) AllReadyH.nil
      go_simp
      refine R1.out.mono ?_
      rintro q v1 ⟨rfl, O1, ht1, hkp1⟩
      have HV1 := hidden ht1
      have HB1 : Hid (v1.heap[w.heap.size]? = _) := (hkp1.block w.heap.size (Array.getElem?_eq_some_iff.1 HBd.out).1 (fun q => by have := HnO.out _ q; omega)).trans HBd.out
      clear ht1 hkp1
      refine hK.out _ _ (HS.out _ HB1.out) (fun hHeld1 => ?_)
      clear hK K hHeld
      refine wpAnyH_ready (rs := [11]) (by kernel_rfl) (by simp) ?_
      refine AllReadyH.cons rfl (fun K hK => ?_) AllReadyH.nil
      go_simp
      refine (R2.out v1 O1 HV1.out).mono ?_
      rintro q v2 ⟨rfl, lv2, ht2, hkp2⟩
      have HV2 := hidden ht2
      have HB2 : Hid (v2.heap[w.heap.size]? = _) := (hkp2.block w.heap.size (Array.getElem?_eq_some_iff.1 HB1.out).1 (fun q => by have := HnR.out _ q; omega)).trans HB1.out
      clear ht2 hkp2
      refine hK.out _ _ (HS.out _ HB2.out) (fun hHeld2 => ?_)
      clear hK K hHeld1
      refine take_dst 12 (some 41) rfl rfl (by kernel_rfl) (by kernel_rfl) (by kernel_rfl) (fun _ _ _ h => h) (v := ?_) (Or.inl ⟨by rfl, ?_⟩) (by assumption) ?_
      rotate_left
      · (intro w hSw; (try dsimp only at hSw); go_simp; try with_reducible rfl)
      simp only [Act.put, List.setIfInBounds_toArray, List.set_cons_zero, List.set_cons_succ]
      refine take_dst 13 (some 6) rfl rfl (by kernel_rfl) (by kernel_rfl) (by kernel_rfl) (fun _ _ _ h => h) (v := ?_) (Or.inl ⟨by rfl, ?_⟩) (by assumption) ?_
      rotate_left
      · (intro w hSw; (try dsimp only at hSw); go_simp; try with_reducible rfl)
      simp only [Act.put, List.setIfInBounds_toArray, List.set_cons_zero, List.set_cons_succ]
      refine wpAnyH_done (by kernel_rfl) ?_ _
      clear hHeld2 HB2 HB1 HBd HS
      go_wp2
      go_ret
      exact ⟨l', O1, lv2, cs', N', rfl, HV2.out, K1.out, K2.out, k3, k4, k5⟩
    · have h1' : ¬ ((d3 : Int) = 1) := by omega
      have y1 : (w.alloc (.cells #[.int .u8 (a.d : Nat), .int .i64 a.at', .int .i64 a.n, .slice qa pl qc] 35)).cell? ⟨w.heap.size, 1, none⟩ = some (.int .i64 a.at') := by simp only [World.cell?, HBX.out]; rfl
      have y2 : (w.alloc (.cells #[.int .u8 (a.d : Nat), .int .i64 a.at', .int .i64 a.n, .slice qa pl qc] 35)).cell? ⟨w.heap.size, 2, none⟩ = some (.int .i64 a.n) := by simp only [World.cell?, HBX.out]; rfl
      by_cases hy : 0 ≤ a.at' ∧ a.at' ≤ (l.length : Int) ∧ 0 ≤ a.n ∧ a.n ≤ (l.length : Int) - a.at'
      · obtain ⟨i, hi⟩ : ∃ i : Nat, a.at' = i := ⟨a.at'.toNat, by omega⟩
        obtain ⟨m, hm⟩ : ∃ m : Nat, a.n = m := ⟨a.n.toNat, by omega⟩
        have C1 := hidden (tx_slice HT.out.tx.x (by omega) i m (by omega))
        have Hi := hidden hi
        have Hm := hidden hm
        have Hy := hidden hy
        have him : i + m ≤ l.length := by omega
        clear hy
        rw [hi, hm] at y1 y2 HBX HT C1 ⊢
        clear hi hm
        go_enter Try.func19, Try.ntmps19
        go_wp2_with fail
        refine C1.out.mono ?_
        rintro q w1 ⟨rfl, hh1, hg1⟩
        have HT1 := hidden (HT.out.grown hg1)
        have HH1 := hidden hh1
        have hbx1 : w1.heap[w.heap.size]? = _ := (hg1.block w.heap.size (Array.getElem?_eq_some_iff.1 HBX.out).1 (by simp)).trans HBX.out
        have z1 : w1.cell? ⟨w.heap.size, 1, none⟩ = some (.int .i64 i) := by simp only [World.cell?, hbx1]; rfl
        have z2 : w1.cell? ⟨w.heap.size, 2, none⟩ = some (.int .i64 m) := by simp only [World.cell?, hbx1]; rfl
        have C2 := rhas wB.heap.size M lv cs N i m w1 HT1.out.rt (by omega)
        rw [decide_eq_true (by omega)] at C2
        have HC2 := hidden C2
        clear C1 hh1 hg1 hbx1 C2 y1 y2
        go_wp2_with fail
        refine HC2.out.mono ?_
        rintro q w2 ⟨rfl, rfl⟩
        clear HC2
        have C3 := rslice wB.heap.size M lv cs N i m w2 HT1.out.rt (by omega) (by omega)
        rw [He.out] at C3
        have HC3 := hidden C3
        clear C3
        go_wp2_with fail
        refine HC3.out.mono ?_
        rintro q w3 ⟨x, rfl, hL3⟩
        have HT3 := hidden (HT1.out.grown (grown_of_below hL3.2))
        have hrow := row_block (c := m) ((grown_of_below hL3.2).block _ (Array.getElem?_eq_some_iff.1 HH1.out).1 (by simp) |>.trans HH1.out)
        have hln : ((l.drop i).take m).length = m := by rw [List.length_take, List.length_drop]; omega
        rw [hln, World.size_alloc] at hrow
        have Hrow := hidden hrow
        have HL3 := hidden hL3.row
        obtain ⟨xa, xc, hxx⟩ := src_slice hL3.src
        rw [hln] at hxx
        subst hxx
        clear hL3 hrow HC3 z1 z2 hln
        go_wp2_with fail
        refine (same_any _ _ ((l.drop i).take m) w3 (fun x hx => Hb.out x (List.mem_of_mem_drop (List.mem_of_mem_take hx))) (by rw [List.length_take, List.length_drop]; omega) Hrow.out HL3.out).mono ?_
        rintro q w4 ⟨rfl, hb4⟩
        have HT4 := hidden (HT3.out.grown (grown_of_below hb4))
        clear hb4 HT3 HT1 Hrow HL3
        go_wp2
        go_ret
        exact ⟨l, O, lv, cs, N, rfl, HT4.out.more (by omega), He.out, Hb.out, by omega, hN.1, by omega⟩
      · have C1 := hidden (tx_slice_no HT.out.tx.x a.at' a.n hy)
        have C2 := rhas wB.heap.size M lv cs N a.at' a.n _ HT.out.rt (by omega)
        rw [decide_eq_false (by rw [hcl]; exact hy)] at C2
        have HC2 := hidden C2
        clear hy C2
        go_enter Try.func19, Try.ntmps19
        go_wp2_with fail
        refine C1.out.mono ?_
        rintro q w1 ⟨rfl, rfl⟩
        clear C1
        go_wp2_with fail
        refine HC2.out.mono ?_
        rintro q w2 ⟨rfl, rfl⟩
        clear HC2 y1 y2
        go_wp2
        go_ret
        exact ⟨l, O, lv, cs, N, rfl, HT.out.more (by omega), He.out, Hb.out, by omega, hN.1, by omega⟩
end
end Go.Proofs.PlatenPiece.Two
