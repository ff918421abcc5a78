/- Both tables side by side; acts of bytes that come and go; what few and does come to. -/
import Derived.Test.YtibdhahkkejnjaaRefG
import Derived.Test.YtibdhahkkejnjaaPsA
import Derived.Test.YtibdhahkkejnjaaOwnA
namespace Go.Proofs.PlatenPiece
open Go Go.RowKit
set_option linter.unusedVariables false
set_option maxRecDepth 100000

theorem rins_c (cs : List Rc) (at' : Nat) (l : List Nat) (N : Int) : (rinsL cs at' l N).map (·.c) = (cs.map (·.c)).take at' ++ (l ++ (cs.map (·.c)).drop at') := by
  unfold rinsL
  split
  · rename_i h
    rw [List.length_eq_zero_iff.1 h, List.nil_append, List.take_append_drop]
  · unfold rins
    rw [List.map_append, List.map_append, comeC_c, List.map_take, List.map_drop, setF_c, List.append_assoc]
theorem rdel_c (cs : List Rc) (at' n : Nat) : (rdel cs at' n).map (·.c) = (cs.map (·.c)).take at' ++ (cs.map (·.c)).drop (at' + n) := by
  unfold rdel
  rw [List.map_append, List.map_take, List.map_drop, setF_c, setF_c]

/-- Both tables, apart from each other; all below B is as it was at first. -/
structure TR (B : Nat) (wB w : World) (T M : Nat) (l : List Nat) (c : Nat) (O : Nat → Prop) (lv : Value) (cs : List Rc) (N : Int) : Prop where
  tx : Tx B w T l c O
  rt : RTab B w M lv cs N
  dj : ∀ k, O k → ¬ ROwn M lv k
  bl : Below B wB w
  bs : B ≤ w.heap.size
section
variable {B : Nat} {wB w w' : World} {T M : Nat} {l l' : List Nat} {c c' : Nat} {O O' : Nat → Prop} {lv lv' : Value} {cs cs' : List Rc} {N N' : Int}
theorem RTab.own (h : RTab B w M lv cs N) : ∀ k, ROwn M lv k → B ≤ k ∧ k < w.heap.size := by
  intro k hk
  rcases hk with rfl | hk
  · exact ⟨h.low, h.lt⟩
  · exact h.row.lt k hk
theorem RTab.same (h : RTab B w M lv cs N) (hb : ∀ k, ROwn M lv k → w'.heap[k]? = w.heap[k]?) : RTab B w' M lv cs N := ⟨h.low, (hb M (Or.inl rfl)).trans h.head, row_same h.row (fun k hk => hb k (Or.inr hk))⟩
theorem below_kept' {Y : Nat → Prop} (hb : Below B wB w) (hB : B ≤ w.heap.size) (hk : Kept Y w w') (hy : ∀ k, Y k → B ≤ k) : Below B wB w' :=
  hb.trans ⟨hk.os, hk.tape, hk.output, hk.size, fun k h1 => hk.block k (by omega) (fun q => by have := hy k q; omega)⟩
theorem TR.p (h : TR B wB w T M l c O lv cs N) (ht : Tx B w' T l' c' O') (hk : Kept O w w') (hs : ∀ k, k < w.heap.size → O' k → O k) : TR B wB w' T M l' c' O' lv cs N :=
  ⟨ht, h.rt.same (fun k hr => hk.block k (h.rt.own k hr).2 (fun ho => h.dj k ho hr)), fun k ho hr => h.dj k (hs k (h.rt.own k hr).2 ho) hr, below_kept' h.bl h.bs hk (fun k ho => (h.tx.own k ho).1), Nat.le_trans h.bs hk.size⟩
theorem TR.r (h : TR B wB w T M l c O lv cs N) (ht : RTab B w' M lv' cs' N') (hk : Kept (ROwn M lv) w w') (hs : ∀ k, k < w.heap.size → lv'.ownBlock = some k → lv.ownBlock = some k) : TR B wB w' T M l c O lv' cs' N' :=
  ⟨h.tx.keep hk (fun k ho => h.dj k ho), ht, fun k ho hr => by
    have hlt := (h.tx.own k ho).2
    rcases hr with hr | hr
    · exact h.dj k ho (Or.inl hr)
    · exact h.dj k ho (Or.inr (hs k hlt hr)), below_kept' h.bl h.bs hk (fun k ho => (h.rt.own k ho).1), Nat.le_trans h.bs hk.size⟩
theorem TR.grown (h : TR B wB w T M l c O lv cs N) (hg : w.grownBy w' none) : TR B wB w' T M l c O lv cs N :=
  ⟨h.tx.grown hg, h.rt.grown hg, h.dj, h.bl.trans ⟨hg.os, hg.tape, hg.output, hg.size, fun k hk => hg.block k (by have := h.bs; omega) (by simp)⟩, Nat.le_trans h.bs hg.size⟩
theorem TR.more (h : TR B wB w T M l c O lv cs N) (hc : c ≤ c') : TR B wB w T M l c' O lv cs N := ⟨h.tx.more hc, h.rt, h.dj, h.bl, h.bs⟩
end

set_option maxHeartbeats 2000000 in
theorem tx_delete_bad {B : Nat} {w : World} {T c : Nat} {l : List Nat} {O : Nat → Prop} (h : Tx B w T l c O) (a n : Int) (hno : ¬ (0 ≤ a ∧ a ≤ (l.length : Int) ∧ 0 ≤ n ∧ n ≤ (l.length : Int) - a)) :
    Calls Try.prog 46 #[.pointer (some ⟨T, 0, none⟩), .int .i64 a, .int .i64 n] w fun e w' => e = .returned (.int .i64 1) ∧ w' = w := by
  have hh := has_of _ (l.length : Int) a n w (tx_len h) (by omega) (by have := h.lim; omega)
  rw [decide_eq_false (by omega)] at hh
  have Hh := hidden hh
  clear hh h hno
  go_enter Try.func46, Try.ntmps46
  go_wp2_with fail
  refine Hh.out.mono ?_
  rintro e w' ⟨rfl, rfl⟩
  go_wp2
  go_ret
  exact ⟨rfl, rfl⟩
theorem tx_insert0 {B : Nat} {w : World} {T c : Nat} {l : List Nat} {O : Nat → Prop} (h : Tx B w T l c O) (hc : c ≤ 4500) (at' : Nat) (hat : at' ≤ l.length) (va : Option Addr) (vc : Nat) :
    Calls Try.prog 43 #[.pointer (some ⟨T, 0, none⟩), .int .i64 at', .slice va 0 vc] w fun e w' => e = .returned (.int .i64 0) ∧ w' = w := by
  obtain ⟨pv, ps, a, rfl, hT, rfl, h2, h3, h4, h5, h6⟩ := h
  rw [flat_len] at hat
  exact insert_zero B T pv ps _ a at' va vc w hT (by omega) (by omega) (by omega)

/-- An act. -/
structure AP where
  d : Nat
  at' : Int
  n : Int
  pv : Value
  p : List Nat
def AP.ok (w : World) (a : AP) : Prop := a.d < 256 ∧ (-9223372036854775808 ≤ a.at' ∧ a.at' ≤ 9223372036854775807) ∧ (-9223372036854775808 ≤ a.n ∧ a.n ≤ 9223372036854775807) ∧ (∀ c ∈ a.p, c < 256) ∧ PlatenPiece.Src w a.pv a.p
def ApAt (w : World) (p : Addr) (a : AP) : Prop := w.cell? p = some (.int .u8 (a.d : Nat)) ∧ w.cell? ⟨p.block, p.off + 1, none⟩ = some (.int .i64 a.at') ∧ w.cell? ⟨p.block, p.off + 2, none⟩ = some (.int .i64 a.n) ∧ w.cell? ⟨p.block, p.off + 3, none⟩ = some a.pv
/-- A slice of acts. -/
def IsActsP (w : World) (v : Value) (xs : List AP) : Prop := xs.length ≤ 9223372036854775807 ∧ ∃ va cap, v = .slice va xs.length cap ∧ ∀ i a, xs[i]? = some a → a.ok w ∧ ∃ ad, va = some ad ∧ ApAt w (ad.add (i * 4)) a
theorem AP.ok.below {w w' : World} {a : AP} (h : a.ok w) (hb : Below w.heap.size w w') : a.ok w' := ⟨h.1, h.2.1, h.2.2.1, h.2.2.2.1, h.2.2.2.2.below hb⟩
theorem ApAt.below {w w' : World} {p : Addr} {a : AP} (h : ApAt w p a) (hb : Below w.heap.size w w') : ApAt w' p a := by
  obtain ⟨h0, h1, h2, h3⟩ := h
  have hlt := World.block_lt_of_cell? _ _ h0
  exact ⟨by rw [hb.cell (p := p) hlt]; exact h0, by rw [hb.cell (p := ⟨p.block, p.off + 1, none⟩) hlt]; exact h1, by rw [hb.cell (p := ⟨p.block, p.off + 2, none⟩) hlt]; exact h2, by rw [hb.cell (p := ⟨p.block, p.off + 3, none⟩) hlt]; exact h3⟩
theorem IsActsP.below {w w' : World} {v : Value} {xs : List AP} (h : IsActsP w v xs) (hb : Below w.heap.size w w') : IsActsP w' v xs := by
  obtain ⟨h0, va, cap, rfl, h1⟩ := h
  refine ⟨h0, va, cap, rfl, fun i a hi => ?_⟩
  obtain ⟨q, ad, rfl, h2⟩ := h1 i a hi
  exact ⟨q.below hb, ad, rfl, h2.below hb⟩
theorem actsP_at {w wr : World} {va : Option Addr} {m cap : Nat} {xs : List AP} (h : IsActsP w (.slice va m cap) xs) (hb : Below w.heap.size w wr) {k : Nat} (hk : k < m) (hm : xs.length = m) : ∃ a pb po ps ad, xs[k]? = some a ∧ a ∈ xs ∧ a.ok w ∧ va = some ad ∧ ad.add (k * 4) = ⟨pb, po, ps⟩ ∧ wr.cell? ⟨pb, po, ps⟩ = some (.int .u8 (a.d : Nat)) ∧ wr.cell? ⟨pb, po + 1, none⟩ = some (.int .i64 a.at') ∧ wr.cell? ⟨pb, po + 2, none⟩ = some (.int .i64 a.n) ∧ wr.cell? ⟨pb, po + 3, none⟩ = some a.pv := by
  obtain ⟨a, ha⟩ : ∃ a, xs[k]? = some a := ⟨_, List.getElem?_eq_getElem (by omega)⟩
  obtain ⟨h0, va', cap', e, h1⟩ := h
  simp only [Value.slice.injEq] at e
  obtain ⟨rfl, _, rfl⟩ := e
  obtain ⟨hok, ad, rfl, h2⟩ := h1 k a ha
  have h2 := h2.below hb
  obtain ⟨⟨pb, po, ps⟩, hP⟩ : ∃ P, ad.add (k * 4) = P := ⟨_, rfl⟩
  rw [hP] at h2
  exact ⟨a, pb, po, ps, ad, ha, List.mem_of_getElem? ha, hok, rfl, hP, h2.1, h2.2.1, h2.2.2.1, h2.2.2.2⟩

def FewP (n : Nat) (xs : List AP) (q : Ending) : Prop := ∃ r, q = .returned (.bool r) ∧ (r = true → n ≤ 100 ∧ xs.length ≤ 24 ∧ ∀ a ∈ xs, a.p.length ≤ 100)
theorem fewP_no {n : Nat} {xs : List AP} {q : Ending} (h : q = .returned (.bool false)) : FewP n xs q := ⟨false, h, fun e => by cases e⟩
theorem src_slice {w : World} {v : Value} {l : List Nat} (h : PlatenPiece.Src w v l) : ∃ va vc, v = .slice va l.length vc := by
  rcases h with ⟨rfl, rfl⟩ | ⟨ad, cap, rfl, _⟩
  · exact ⟨_, _, rfl⟩
  · exact ⟨_, _, rfl⟩

set_option maxHeartbeats 2000000 in
theorem fewP_any (pa : Option Addr) (n pc : Nat) (v : Value) (xs : List AP) (w : World) (hv : IsActsP w v xs) :
    Calls Try.prog 14 #[.slice pa n pc, v] w fun q w' => FewP n xs q ∧ w' = w := by
  have HA := hidden hv
  obtain ⟨hx0, va, cap, rfl, hx⟩ := hv
  obtain ⟨m, hm⟩ : ∃ m, xs.length = m := ⟨_, rfl⟩
  have Hm := hidden hm
  rw [hm] at hx0 HA ⊢
  clear hx hm
  by_cases h1 : (100 : Int) < (n : Int)
  · go_enter Try.func14, Try.ntmps14
    go_wp2
    go_ret
    exact ⟨fewP_no rfl, rfl⟩
  · by_cases h2 : (24 : Int) < (m : Int)
    · go_enter Try.func14, Try.ntmps14
      go_wp2
      go_ret
      exact ⟨fewP_no rfl, rfl⟩
    · have Hn : Hid (n ≤ 100) := by unfold Hid; omega
      go_enter Try.func14, Try.ntmps14
      go_wp2
      go_loopw [5] (fun i wr => ∃ k : Nat, k ≤ m ∧ i = .int .i64 k ∧ wr = w ∧ ∀ a ∈ xs.take k, a.p.length ≤ 100) (fun i _ => m - (intOf i).toNat)
      case atStart => exact ⟨0, Nat.zero_le _, rfl, rfl, by simp⟩
      case round =>
        obtain ⟨k, hk, rfl, rfl, hall⟩ := hrel
        by_cases hlt : k < m
        · have hkz : (k : Int) < (m : Int) := by omega
          obtain ⟨a, pb, po, ps, ad, ha, hmem, hok, rfl, hP, a0, a1, a2, a3⟩ := actsP_at HA.out (Below.refl _ _) hlt Hm.out
          have Hstep : Hid (a.p.length ≤ 100 → ∀ b ∈ xs.take (k + 1), b.p.length ≤ 100) := fun h b hb => by
            rw [List.take_add_one, ha, Option.toList_some] at hb
            rcases List.mem_append.1 hb with hb | hb
            · exact hall b hb
            · simp only [List.mem_singleton] at hb; subst hb; exact h
          obtain ⟨qa, qc, hq⟩ := src_slice hok.2.2.2.2
          rw [hq] at a3
          obtain ⟨os, hos⟩ : ∃ os, a.p.length = os := ⟨_, rfl⟩
          rw [hos] at a3
          have Hos := hidden hos
          clear ha hall hq hos hok hmem
          by_cases h3 : (100 : Int) < (os : Int)
          · go_wp2
            go_ret
            exact ⟨fewP_no rfl, rfl⟩
          · have Hok : Hid (a.p.length ≤ 100) := by unfold Hid; rw [Hos.out]; omega
            go_wp2
            go_roundw
            case rel => exact ⟨k + 1, by omega, by go_num, by first | exact rfl | exact trivial, Hstep.out Hok.out⟩
            case measure => simp [intOf]; omega
        · have hkz : ¬ ((k : Int) < (m : Int)) := by omega
          have hkm : k = m := by omega
          have Hall : Hid (∀ a ∈ xs, a.p.length ≤ 100) := fun a ha => hall a (by rw [hkm, List.take_of_length_le (by rw [Hm.out]; exact Nat.le_refl _)]; exact ha)
          have Hm24 : Hid (m ≤ 24) := by unfold Hid; omega
          clear hall hkm
          go_wp2
          go_ret
          exact ⟨⟨true, rfl, fun _ => ⟨Hn.out, by rw [Hm.out]; exact Hm24.out, Hall.out⟩⟩, rfl⟩

/-- What an act comes to. -/
def PAct (B : Nat) (wB : World) (T M : Nat) (l : List Nat) (c : Nat) (N : Int) (q : Ending) (w' : World) : Prop := ∃ l' O' lv' cs' N', q = .returned (.bool true) ∧ TR B wB w' T M l' (c + 1) O' lv' cs' N' ∧ cs'.map (·.c) = l' ∧ (∀ x ∈ l', x < 256) ∧ l'.length ≤ l.length + 100 ∧ 0 ≤ N' ∧ N' ≤ N + 100
/-- Two answers of Insert or Delete. -/
structure Both (B : Nat) (wB : World) (T M : Nat) (l : List Nat) (c : Nat) (O : Nat → Prop) (lv : Value) (cs : List Rc) (N : Int) (f g : Nat) (A A' : Array Value) : Prop where
  run : ∀ w, TR B wB w T M l c O lv cs N → ∃ code l' cs' N', cs'.map (·.c) = l' ∧ (∀ x ∈ l', x < 256) ∧ l'.length ≤ l.length + 100 ∧ 0 ≤ N' ∧ N' ≤ N + 100 ∧
    (Calls Try.prog f A w fun q w1 => q = .returned (.int .i64 code) ∧ ∃ O', TR B wB w1 T M l' (c + 1) O' lv cs N ∧ Kept O w w1) ∧
    (∀ w1 O', TR B wB w1 T M l' (c + 1) O' lv cs N → Calls Try.prog g A' w1 fun q w2 => q = .returned (.int .i64 code) ∧ ∃ lv', TR B wB w2 T M l' (c + 1) O' lv' cs' N' ∧ Kept (ROwn M lv) w1 w2)
section
variable {wB w w' : World} {T M : Nat} {l : List Nat} {c : Nat} {O : Nat → Prop} {lv : Value} {cs : List Rc} {N : Int}

theorem both_insert (a : AP) (ha : a.ok wB) (hp : a.p.length ≤ 100) (he : cs.map (·.c) = l) (hb : ∀ x ∈ l, x < 256) (hl : l.length ≤ 3000) (hc : c ≤ 4000) (hN : 0 ≤ N ∧ N ≤ 10000) :
    Both wB.heap.size wB T M l c O lv cs N 43 45 #[.pointer (some ⟨T, 0, none⟩), .int .i64 a.at', a.pv] #[.pointer (some ⟨M, 0, none⟩), .int .i64 a.at', a.pv] := by
  have hcl : cs.length = l.length := by rw [← he, List.length_map]
  refine ⟨fun w h => ?_⟩
  by_cases hy : 0 ≤ a.at' ∧ a.at' ≤ (l.length : Int)
  · obtain ⟨i, hi⟩ : ∃ i : Nat, a.at' = i := ⟨a.at'.toNat, by omega⟩
    rw [hi] at hy ⊢
    refine ⟨0, l.take i ++ (a.p ++ l.drop i), rinsL cs i a.p N, N + (a.p.length : Int), ?_, ?_, ?_, by omega, by omega, ?_, ?_⟩
    · rw [rins_c, he]
    · intro x hx
      simp only [List.mem_append] at hx
      rcases hx with hx | hx | hx
      · exact hb x (List.mem_of_mem_take hx)
      · exact ha.2.2.2.1 x hx
      · exact hb x (List.mem_of_mem_drop hx)
    · rw [List.length_append, List.length_append, List.length_take, List.length_drop]; omega
    · rcases Nat.eq_zero_or_pos a.p.length with h0 | h0
      · obtain ⟨va, vc, hv⟩ := src_slice ha.2.2.2.2
        rw [hv, h0]
        refine (tx_insert0 h.tx (by omega) i (by omega) va vc).mono ?_
        rintro q w1 ⟨rfl, rfl⟩
        refine ⟨rfl, O, ?_, Kept.refl _ _⟩
        rw [List.length_eq_zero_iff.1 h0, List.nil_append, List.take_append_drop]
        exact h.more (by omega)
      · have hs := ha.2.2.2.2.below h.bl
        refine (tx_insert h.tx (by omega) i (by omega) a.p (by omega) a.pv hs (fun k hk ho => ?_)).mono ?_
        · have h1 := (h.tx.own k ho).1
          rcases ha.2.2.2.2 with ⟨_, e⟩ | ⟨ad, cap, e, hcell⟩
          · rw [e] at h0; simp at h0
          · rw [e] at hk
            simp only [Value.ownBlock, Option.some.injEq] at hk
            have h2 := hcell 0 (.int .u8 (a.p[0] : Nat)) (by simp [bytesV, List.getElem?_eq_getElem h0])
            have h3 := World.block_lt_of_cell? _ _ h2
            have h4 : (ad.add 0).block = ad.block := by unfold Addr.add; split <;> rfl
            omega
        · rintro q w1 ⟨rfl, O', h1, h2, h3⟩
          exact ⟨rfl, O', h.p h1 h2 h3, h2⟩
    · intro w1 O' h1
      refine (rinsert wB.heap.size M lv cs N i a.pv a.p w1 h1.rt (by omega) (by omega) h1.bs (by omega) (ha.2.2.2.2.below h1.bl) (fun ad n cc e h0 ho => ?_)).mono ?_
      · have h1' := (h1.rt.own _ ho).1
        rcases ha.2.2.2.2 with ⟨_, e'⟩ | ⟨ad', cap, e', hcell⟩
        · rw [e'] at h0; simp at h0
        · rw [e] at e'
          simp only [Value.slice.injEq, Option.some.injEq] at e'
          obtain ⟨rfl, _⟩ := e'
          have h2 := hcell 0 (.int .u8 (a.p[0] : Nat)) (by simp [bytesV, List.getElem?_eq_getElem h0])
          have h3 := World.block_lt_of_cell? _ _ h2
          have h4 : (ad.add 0).block = ad.block := by unfold Addr.add; split <;> rfl
          omega
      · rintro q w2 ⟨rfl, lv', hT, hK, hS⟩
        exact ⟨rfl, lv', h1.r hT hK hS, hK⟩
  · refine ⟨1, l, cs, N, he, hb, by omega, hN.1, by omega, ?_, ?_⟩
    · refine (insert_bad _ (l.length : Int) a.at' a.pv w (Or.inr ⟨T, rfl⟩) (tx_len h.tx) (by omega) (by omega) (Or.inl hy)).mono ?_
      rintro q w1 ⟨rfl, rfl⟩
      exact ⟨rfl, O, h.more (by omega), Kept.refl _ _⟩
    · intro w1 O' h1
      refine (rinsert_bad wB.heap.size M lv cs N a.at' a.pv w1 h1.rt (by rw [hcl]; exact hy)).mono ?_
      rintro q w2 ⟨rfl, rfl⟩
      exact ⟨rfl, lv, h1, Kept.refl _ _⟩
theorem both_delete (a : AP) (he : cs.map (·.c) = l) (hb : ∀ x ∈ l, x < 256) (hl : l.length ≤ 3000) (hc : c ≤ 4000) (hN : 0 ≤ N ∧ N ≤ 10000) :
    Both wB.heap.size wB T M l c O lv cs N 46 47 #[.pointer (some ⟨T, 0, none⟩), .int .i64 a.at', .int .i64 a.n] #[.pointer (some ⟨M, 0, none⟩), .int .i64 a.at', .int .i64 a.n] := by
  have hcl : cs.length = l.length := by rw [← he, List.length_map]
  refine ⟨fun w h => ?_⟩
  by_cases hy : 0 ≤ a.at' ∧ a.at' ≤ (l.length : Int) ∧ 0 ≤ a.n ∧ a.n ≤ (l.length : Int) - a.at'
  · obtain ⟨i, hi⟩ : ∃ i : Nat, a.at' = i := ⟨a.at'.toNat, by omega⟩
    obtain ⟨m, hm⟩ : ∃ m : Nat, a.n = m := ⟨a.n.toNat, by omega⟩
    rw [hi, hm] at hy ⊢
    refine ⟨0, l.take i ++ l.drop (i + m), rdel cs i m, N, ?_, ?_, ?_, hN.1, by omega, ?_, ?_⟩
    · rw [rdel_c, he]
    · intro x hx
      rcases List.mem_append.1 hx with hx | hx
      · exact hb x (List.mem_of_mem_take hx)
      · exact hb x (List.mem_of_mem_drop hx)
    · rw [List.length_append, List.length_take, List.length_drop]; omega
    · refine (tx_delete h.tx (by omega) i m (by omega)).mono ?_
      rintro q w1 ⟨rfl, O', h1, h2, h3⟩
      exact ⟨rfl, O', h.p h1 h2 h3, h2⟩
    · intro w1 O' h1
      refine (rdelete wB.heap.size M lv cs N i m w1 h1.rt (by omega) (by omega) h1.bs).mono ?_
      rintro q w2 ⟨rfl, lv', hT, hK, hS⟩
      exact ⟨rfl, lv', h1.r hT hK (fun k hk q => by have := hS k q; omega), hK⟩
  · refine ⟨1, l, cs, N, he, hb, by omega, hN.1, by omega, ?_, ?_⟩
    · refine (tx_delete_bad h.tx a.at' a.n hy).mono ?_
      rintro q w1 ⟨rfl, rfl⟩
      exact ⟨rfl, O, h.more (by omega), Kept.refl _ _⟩
    · intro w1 O' h1
      refine (rdelete_bad wB.heap.size M lv cs N a.at' a.n w1 h1.rt (by omega) (by rw [hcl]; exact hy)).mono ?_
      rintro q w2 ⟨rfl, rfl⟩
      exact ⟨rfl, lv, h1, Kept.refl _ _⟩

set_option maxHeartbeats 4000000 in
theorem doesP (h : TR wB.heap.size wB w T M l c O lv cs N) (he : cs.map (·.c) = l) (hb : ∀ x ∈ l, x < 256) (hl : l.length ≤ 3000) (hc : c ≤ 4000) (hN : 0 ≤ N ∧ N ≤ 10000) (a : AP) (ha : a.ok wB) (hp : a.p.length ≤ 100) :
    Calls Try.prog 19 #[.pointer (some ⟨T, 0, none⟩), .pointer (some ⟨M, 0, none⟩), .agg #[.int .u8 (a.d : Nat), .int .i64 a.at', .int .i64 a.n, a.pv]] w fun q w' => PAct wB.heap.size wB T M l c N q w' := by
  have hcl : cs.length = l.length := by rw [← he, List.length_map]
  have BI := hidden (both_insert (T := T) (M := M) (O := O) (lv := lv) a ha hp he hb hl hc hN)
  have BD := hidden (both_delete (wB := wB) (T := T) (M := M) (O := O) (lv := lv) a he hb hl hc hN)
  have hg0 := grownBy_alloc w (.cells #[.int .u8 (a.d : Nat), .int .i64 a.at', .int .i64 a.n, a.pv] 35)
  have hbx : (w.alloc (.cells #[.int .u8 (a.d : Nat), .int .i64 a.at', .int .i64 a.n, a.pv] 35)).heap[w.heap.size]? = some (.cells #[.int .u8 (a.d : Nat), .int .i64 a.at', .int .i64 a.n, a.pv] 35 (0, 0)) := heap_alloc_new _ _
  have HT := hidden (h.grown hg0)
  have HBX := hidden hbx
  have HnO : Hid (∀ k, O k → k < w.heap.size) := fun k hk => (h.tx.own k hk).2
  have HnR : Hid (∀ k, ROwn M lv k → k < w.heap.size) := fun k hk => (h.rt.own k hk).2
  have He := hidden he
  have Hb := hidden hb
  obtain ⟨qa, qc, hq⟩ := src_slice ha.2.2.2.2
  obtain ⟨pl, hpl⟩ : ∃ pl, a.p.length = pl := ⟨_, rfl⟩
  rw [hpl] at hq
  obtain ⟨d3, hd3, hd4⟩ : ∃ d3 : Nat, (a.d : Int).tmod 3 = (d3 : Int) ∧ d3 < 3 := ⟨a.d % 3, by rw [Int.tmod_eq_emod_of_nonneg (by omega)]; push_cast; rfl, Nat.mod_lt _ (by decide)⟩
  rw [hq] at BI HBX ⊢
  rw [hq] at HT
  clear h he hb hg0 hbx hpl
  by_cases h0 : d3 = 0
  · have h0' : ((d3 : Int) = 0) := by omega
    clear h0
    go_enter Try.func19, Try.ntmps19
    go_wp2_with fail
    have HTd := hidden (HT.out.grown (grown_drew' _))
    have HBd : Hid ((w.alloc (.cells #[.int .u8 (a.d : Nat), .int .i64 a.at', .int .i64 a.n, .slice qa pl qc] 35)).drew.heap[w.heap.size]? = some (.cells #[.int .u8 (a.d : Nat), .int .i64 a.at', .int .i64 a.n, .slice qa pl qc] 35 (0, 0))) := HBX.out
    have HS : Hid (∀ u : World, u.heap[w.heap.size]? = some (.cells #[.int .u8 (a.d : Nat), .int .i64 a.at', .int .i64 a.n, .slice qa pl qc] 35 (0, 0)) → (fun u : World => u.cell? ⟨w.heap.size, 1, none⟩ = some (.int .i64 a.at') ∧ u.cell? ⟨w.heap.size, 3, none⟩ = some (.slice qa pl qc)) u) := fun u hu => ⟨by simp only [World.cell?, hu]; rfl, by simp only [World.cell?, hu]; rfl⟩
    refine wp_region_held_drew (S := (fun u : World => u.cell? ⟨w.heap.size, 1, none⟩ = some (.int .i64 a.at') ∧ u.cell? ⟨w.heap.size, 3, none⟩ = some (.slice qa pl qc))) (by kernel_rfl) (HS.out _ HBd.out) (fun hHeld => ?_)
    generalize (w.alloc (.cells #[.int .u8 (a.d : Nat), .int .i64 a.at', .int .i64 a.n, .slice qa pl qc] 35)).drew = V at *
    refine take_dst 0 (some 14) rfl rfl (by kernel_rfl) (by kernel_rfl) (by kernel_rfl) (fun _ _ _ h => h) (v := ?_) (Or.inl ⟨by rfl, ?_⟩) (by assumption) ?_
    rotate_left
    · (intro w hSw; (try dsimp only at hSw); go_simp; try with_reducible rfl)
    simp only [Act.put, List.setIfInBounds_toArray, List.set_cons_zero, List.set_cons_succ]
    refine take_dst 1 (some 15) rfl rfl (by kernel_rfl) (by kernel_rfl) (by kernel_rfl) (fun _ _ _ h => h) (v := ?_) (Or.inl ⟨by rfl, ?_⟩) (by assumption) ?_
    rotate_left
    · (intro w hSw; (try dsimp only at hSw); go_simp; try with_reducible rfl)
    simp only [Act.put, List.setIfInBounds_toArray, List.set_cons_zero, List.set_cons_succ]
    refine take_dst 2 (some 16) rfl rfl (by kernel_rfl) (by kernel_rfl) (by kernel_rfl) (fun _ _ _ h => h) (v := ?_) (Or.inl ⟨by rfl, ?_⟩) (by assumption) ?_
    rotate_left
    · (intro w hSw; (try dsimp only at hSw); go_simp; try with_reducible rfl)
    simp only [Act.put, List.setIfInBounds_toArray, List.set_cons_zero, List.set_cons_succ]
    refine take_dst 3 (some 17) rfl rfl (by kernel_rfl) (by kernel_rfl) (by kernel_rfl) (fun _ _ _ h => h) (v := ?_) (Or.inl ⟨by rfl, ?_⟩) (by assumption) ?_
    rotate_left
    · (intro w hSw; (try dsimp only at hSw); go_simp; try with_reducible rfl)
    simp only [Act.put, List.setIfInBounds_toArray, List.set_cons_zero, List.set_cons_succ]
    refine take_dst 4 (some 18) rfl rfl (by kernel_rfl) (by kernel_rfl) (by kernel_rfl) (fun _ _ _ h => h) (v := ?_) (Or.inl ⟨by rfl, ?_⟩) (by assumption) ?_
    rotate_left
    · (intro w hSw; (try dsimp only at hSw); go_simp; try with_reducible rfl)
    simp only [Act.put, List.setIfInBounds_toArray, List.set_cons_zero, List.set_cons_succ]
    refine take_dst 6 (some 20) rfl rfl (by kernel_rfl) (by kernel_rfl) (by kernel_rfl) (fun _ _ _ h => h) (v := ?_) (Or.inl ⟨by rfl, ?_⟩) (by assumption) ?_
    rotate_left
    · (intro w hSw; (try dsimp only at hSw); go_simp; try with_reducible rfl)
    simp only [Act.put, List.setIfInBounds_toArray, List.set_cons_zero, List.set_cons_succ]
    refine take_dst 7 (some 21) rfl rfl (by kernel_rfl) (by kernel_rfl) (by kernel_rfl) (fun _ _ _ h => h) (v := ?_) (Or.inl ⟨by rfl, ?_⟩) (by assumption) ?_
    rotate_left
    · (intro w hSw; (try dsimp only at hSw); go_simp; try with_reducible rfl)
    simp only [Act.put, List.setIfInBounds_toArray, List.set_cons_zero, List.set_cons_succ]
    refine take_dst 8 (some 22) rfl rfl (by kernel_rfl) (by kernel_rfl) (by kernel_rfl) (fun _ _ _ h => h) (v := ?_) (Or.inl ⟨by rfl, ?_⟩) (by assumption) ?_
    rotate_left
    · (intro w hSw; (try dsimp only at hSw); go_simp; try with_reducible rfl)
    simp only [Act.put, List.setIfInBounds_toArray, List.set_cons_zero, List.set_cons_succ]
    refine take_dst 9 (some 23) rfl rfl (by kernel_rfl) (by kernel_rfl) (by kernel_rfl) (fun _ _ _ h => h) (v := ?_) (Or.inl ⟨by rfl, ?_⟩) (by assumption) ?_
    rotate_left
    · (intro w hSw; (try dsimp only at hSw); go_simp; try with_reducible rfl)
    simp only [Act.put, List.setIfInBounds_toArray, List.set_cons_zero, List.set_cons_succ]
    refine take_dst 10 (some 24) rfl rfl (by kernel_rfl) (by kernel_rfl) (by kernel_rfl) (fun _ _ _ h => h) (v := ?_) (Or.inl ⟨by rfl, ?_⟩) (by assumption) ?_
    rotate_left
    · (intro w hSw; (try dsimp only at hSw); go_simp; try with_reducible rfl)
    simp only [Act.put, List.setIfInBounds_toArray, List.set_cons_zero, List.set_cons_succ]
    obtain ⟨code, l', cs', N', k1, k2, k3, k4, k5, r1, r2⟩ := BI.out.run V HTd.out
    have R1 := hidden r1
    have R2 := hidden r2
    have K1 := hidden k1
    have K2 := hidden k2
    clear r1 r2 k1 k2
    refine wpAnyH_ready (rs := [5]) (by kernel_rfl) (by simp) ?_
    refine AllReadyH.cons rfl (fun K hK => ?_) AllReadyH.nil
    go_simp
    refine R1.out.mono ?_
    rintro q v1 ⟨rfl, O1, ht1, hkp1⟩
    have HV1 := hidden ht1
    have HB1 : Hid (v1.heap[w.heap.size]? = _) := (hkp1.block w.heap.size (Array.getElem?_eq_some_iff.1 HBd.out).1 (fun q => by have := HnO.out _ q; omega)).trans HBd.out
    clear ht1 hkp1
    refine hK.out _ _ (HS.out _ HB1.out) (fun hHeld1 => ?_)
    clear hK K hHeld
    refine wpAnyH_ready (rs := [11]) (by kernel_rfl) (by simp) ?_
    refine AllReadyH.cons rfl (fun K hK => ?_) AllReadyH.nil
    go_simp
    refine (R2.out v1 O1 HV1.out).mono ?_
    rintro q v2 ⟨rfl, lv2, ht2, hkp2⟩
    have HV2 := hidden ht2
    have HB2 : Hid (v2.heap[w.heap.size]? = _) := (hkp2.block w.heap.size (Array.getElem?_eq_some_iff.1 HB1.out).1 (fun q => by have := HnR.out _ q; omega)).trans HB1.out
    clear ht2 hkp2
    refine hK.out _ _ (HS.out _ HB2.out) (fun hHeld2 => ?_)
    clear hK K hHeld1
    refine take_dst 12 (some 26) rfl rfl (by kernel_rfl) (by kernel_rfl) (by kernel_rfl) (fun _ _ _ h => h) (v := ?_) (Or.inl ⟨by rfl, ?_⟩) (by assumption) ?_
    rotate_left
    · (intro w hSw; (try dsimp only at hSw); go_simp; try with_reducible rfl)
    simp only [Act.put, List.setIfInBounds_toArray, List.set_cons_zero, List.set_cons_succ]
    refine take_dst 13 (some 6) rfl rfl (by kernel_rfl) (by kernel_rfl) (by kernel_rfl) (fun _ _ _ h => h) (v := ?_) (Or.inl ⟨by rfl, ?_⟩) (by assumption) ?_
    rotate_left
    · (intro w hSw; (try dsimp only at hSw); go_simp; try with_reducible rfl)
    simp only [Act.put, List.setIfInBounds_toArray, List.set_cons_zero, List.set_cons_succ]
    refine wpAnyH_done (by kernel_rfl) ?_ _
    clear hHeld2 HB2 HB1 HBd HS
    go_wp2
    go_ret
    exact ⟨l', O1, lv2, cs', N', rfl, HV2.out, K1.out, K2.out, k3, k4, k5⟩
  · have h0' : ¬ ((d3 : Int) = 0) := by omega
    by_cases h1 : d3 = 1
    · have h1' : ((d3 : Int) = 1) := by omega
      clear h1
      go_enter Try.func19, Try.ntmps19
      go_wp2_with fail
      have HTd := hidden (HT.out.grown (grown_drew' _))
      have HBd : Hid ((w.alloc (.cells #[.int .u8 (a.d : Nat), .int .i64 a.at', .int .i64 a.n, .slice qa pl qc] 35)).drew.heap[w.heap.size]? = some (.cells #[.int .u8 (a.d : Nat), .int .i64 a.at', .int .i64 a.n, .slice qa pl qc] 35 (0, 0))) := HBX.out
      have HS : Hid (∀ u : World, u.heap[w.heap.size]? = some (.cells #[.int .u8 (a.d : Nat), .int .i64 a.at', .int .i64 a.n, .slice qa pl qc] 35 (0, 0)) → (fun u : World => u.cell? ⟨w.heap.size, 1, none⟩ = some (.int .i64 a.at') ∧ u.cell? ⟨w.heap.size, 2, none⟩ = some (.int .i64 a.n)) u) := fun u hu => ⟨by simp only [World.cell?, hu]; rfl, by simp only [World.cell?, hu]; rfl⟩
      refine wp_region_held_drew (S := (fun u : World => u.cell? ⟨w.heap.size, 1, none⟩ = some (.int .i64 a.at') ∧ u.cell? ⟨w.heap.size, 2, none⟩ = some (.int .i64 a.n))) (by kernel_rfl) (HS.out _ HBd.out) (fun hHeld => ?_)
      generalize (w.alloc (.cells #[.int .u8 (a.d : Nat), .int .i64 a.at', .int .i64 a.n, .slice qa pl qc] 35)).drew = V at *
      refine take_dst 0 (some 29) rfl rfl (by kernel_rfl) (by kernel_rfl) (by kernel_rfl) (fun _ _ _ h => h) (v := ?_) (Or.inl ⟨by rfl, ?_⟩) (by assumption) ?_
      rotate_left
      · (intro w hSw; (try dsimp only at hSw); go_simp; try with_reducible rfl)
      simp only [Act.put, List.setIfInBounds_toArray, List.set_cons_zero, List.set_cons_succ]
      refine take_dst 1 (some 30) rfl rfl (by kernel_rfl) (by kernel_rfl) (by kernel_rfl) (fun _ _ _ h => h) (v := ?_) (Or.inl ⟨by rfl, ?_⟩) (by assumption) ?_
      rotate_left
      · (intro w hSw; (try dsimp only at hSw); go_simp; try with_reducible rfl)
      simp only [Act.put, List.setIfInBounds_toArray, List.set_cons_zero, List.set_cons_succ]
      refine take_dst 2 (some 31) rfl rfl (by kernel_rfl) (by kernel_rfl) (by kernel_rfl) (fun _ _ _ h => h) (v := ?_) (Or.inl ⟨by rfl, ?_⟩) (by assumption) ?_
      rotate_left
      · (intro w hSw; (try dsimp only at hSw); go_simp; try with_reducible rfl)
      simp only [Act.put, List.setIfInBounds_toArray, List.set_cons_zero, List.set_cons_succ]
      refine take_dst 3 (some 32) rfl rfl (by kernel_rfl) (by kernel_rfl) (by kernel_rfl) (fun _ _ _ h => h) (v := ?_) (Or.inl ⟨by rfl, ?_⟩) (by assumption) ?_
      rotate_left
      · (intro w hSw; (try dsimp only at hSw); go_simp; try with_reducible rfl)
      simp only [Act.put, List.setIfInBounds_toArray, List.set_cons_zero, List.set_cons_succ]
      refine take_dst 4 (some 33) rfl rfl (by kernel_rfl) (by kernel_rfl) (by kernel_rfl) (fun _ _ _ h => h) (v := ?_) (Or.inl ⟨by rfl, ?_⟩) (by assumption) ?_
      rotate_left
      · (intro w hSw; (try dsimp only at hSw); go_simp; try with_reducible rfl)
      simp only [Act.put, List.setIfInBounds_toArray, List.set_cons_zero, List.set_cons_succ]
      refine take_dst 6 (some 35) rfl rfl (by kernel_rfl) (by kernel_rfl) (by kernel_rfl) (fun _ _ _ h => h) (v := ?_) (Or.inl ⟨by rfl, ?_⟩) (by assumption) ?_
      rotate_left
      · (intro w hSw; (try dsimp only at hSw); go_simp; try with_reducible rfl)
      simp only [Act.put, List.setIfInBounds_toArray, List.set_cons_zero, List.set_cons_succ]
      refine take_dst 7 (some 36) rfl rfl (by kernel_rfl) (by kernel_rfl) (by kernel_rfl) (fun _ _ _ h => h) (v := ?_) (Or.inl ⟨by rfl, ?_⟩) (by assumption) ?_
      rotate_left
      · (intro w hSw; (try dsimp only at hSw); go_simp; try with_reducible rfl)
      simp only [Act.put, List.setIfInBounds_toArray, List.set_cons_zero, List.set_cons_succ]
      refine take_dst 8 (some 37) rfl rfl (by kernel_rfl) (by kernel_rfl) (by kernel_rfl) (fun _ _ _ h => h) (v := ?_) (Or.inl ⟨by rfl, ?_⟩) (by assumption) ?_
      rotate_left
      · (intro w hSw; (try dsimp only at hSw); go_simp; try with_reducible rfl)
      simp only [Act.put, List.setIfInBounds_toArray, List.set_cons_zero, List.set_cons_succ]
      refine take_dst 9 (some 38) rfl rfl (by kernel_rfl) (by kernel_rfl) (by kernel_rfl) (fun _ _ _ h => h) (v := ?_) (Or.inl ⟨by rfl, ?_⟩) (by assumption) ?_
      rotate_left
      · (intro w hSw; (try dsimp only at hSw); go_simp; try with_reducible rfl)
      simp only [Act.put, List.setIfInBounds_toArray, List.set_cons_zero, List.set_cons_succ]
      refine take_dst 10 (some 39) rfl rfl (by kernel_rfl) (by kernel_rfl) (by kernel_rfl) (fun _ _ _ h => h) (v := ?_) (Or.inl ⟨by rfl, ?_⟩) (by assumption) ?_
      rotate_left
      · (intro w hSw; (try dsimp only at hSw); go_simp; try with_reducible rfl)
      simp only [Act.put, List.setIfInBounds_toArray, List.set_cons_zero, List.set_cons_succ]
      obtain ⟨code, l', cs', N', k1, k2, k3, k4, k5, r1, r2⟩ := BD.out.run V HTd.out
      have R1 := hidden r1
      have R2 := hidden r2
      have K1 := hidden k1
      have K2 := hidden k2
      clear r1 r2 k1 k2
      refine wpAnyH_ready (rs := [5]) (by kernel_rfl) (by simp) ?_
      refine AllReadyH.cons rfl (fun K hK => ?_) AllReadyH.nil
      go_simp
      refine R1.out.mono ?_
      rintro q v1 ⟨rfl, O1, ht1, hkp1⟩
      have HV1 := hidden ht1
      have HB1 : Hid (v1.heap[w.heap.size]? = _) := (hkp1.block w.heap.size (Array.getElem?_eq_some_iff.1 HBd.out).1 (fun q => by have := HnO.out _ q; omega)).trans HBd.out
      clear ht1 hkp1
      refine hK.out _ _ (HS.out _ HB1.out) (fun hHeld1 => ?_)
      clear hK K hHeld
      refine wpAnyH_ready (rs := [11]) (by kernel_rfl) (by simp) ?_
      refine AllReadyH.cons rfl (fun K hK => ?_) AllReadyH.nil
      go_simp
      refine (R2.out v1 O1 HV1.out).mono ?_
      rintro q v2 ⟨rfl, lv2, ht2, hkp2⟩
      have HV2 := hidden ht2
      have HB2 : Hid (v2.heap[w.heap.size]? = _) := (hkp2.block w.heap.size (Array.getElem?_eq_some_iff.1 HB1.out).1 (fun q => by have := HnR.out _ q; omega)).trans HB1.out
      clear ht2 hkp2
      refine hK.out _ _ (HS.out _ HB2.out) (fun hHeld2 => ?_)
      clear hK K hHeld1
      refine take_dst 12 (some 41) rfl rfl (by kernel_rfl) (by kernel_rfl) (by kernel_rfl) (fun _ _ _ h => h) (v := ?_) (Or.inl ⟨by rfl, ?_⟩) (by assumption) ?_
      rotate_left
      · (intro w hSw; (try dsimp only at hSw); go_simp; try with_reducible rfl)
      simp only [Act.put, List.setIfInBounds_toArray, List.set_cons_zero, List.set_cons_succ]
      refine take_dst 13 (some 6) rfl rfl (by kernel_rfl) (by kernel_rfl) (by kernel_rfl) (fun _ _ _ h => h) (v := ?_) (Or.inl ⟨by rfl, ?_⟩) (by assumption) ?_
      rotate_left
      · (intro w hSw; (try dsimp only at hSw); go_simp; try with_reducible rfl)
      simp only [Act.put, List.setIfInBounds_toArray, List.set_cons_zero, List.set_cons_succ]
      refine wpAnyH_done (by kernel_rfl) ?_ _
      clear hHeld2 HB2 HB1 HBd HS
      go_wp2
      go_ret
      exact ⟨l', O1, lv2, cs', N', rfl, HV2.out, K1.out, K2.out, k3, k4, k5⟩
    · have h1' : ¬ ((d3 : Int) = 1) := by omega
      have y1 : (w.alloc (.cells #[.int .u8 (a.d : Nat), .int .i64 a.at', .int .i64 a.n, .slice qa pl qc] 35)).cell? ⟨w.heap.size, 1, none⟩ = some (.int .i64 a.at') := by simp only [World.cell?, HBX.out]; rfl
      have y2 : (w.alloc (.cells #[.int .u8 (a.d : Nat), .int .i64 a.at', .int .i64 a.n, .slice qa pl qc] 35)).cell? ⟨w.heap.size, 2, none⟩ = some (.int .i64 a.n) := by simp only [World.cell?, HBX.out]; rfl
      by_cases hy : 0 ≤ a.at' ∧ a.at' ≤ (l.length : Int) ∧ 0 ≤ a.n ∧ a.n ≤ (l.length : Int) - a.at'
      · obtain ⟨i, hi⟩ : ∃ i : Nat, a.at' = i := ⟨a.at'.toNat, by omega⟩
        obtain ⟨m, hm⟩ : ∃ m : Nat, a.n = m := ⟨a.n.toNat, by omega⟩
        have C1 := hidden (tx_slice HT.out.tx (by omega) i m (by omega))
        have Hi := hidden hi
        have Hm := hidden hm
        have Hy := hidden hy
        have him : i + m ≤ l.length := by omega
        clear hy
        rw [hi, hm] at y1 y2 HBX HT C1 ⊢
        clear hi hm
        go_enter Try.func19, Try.ntmps19
        go_wp2_with fail
        refine C1.out.mono ?_
        rintro q w1 ⟨rfl, hh1, hg1⟩
        have HT1 := hidden (HT.out.grown hg1)
        have HH1 := hidden hh1
        have hbx1 : w1.heap[w.heap.size]? = _ := (hg1.block w.heap.size (Array.getElem?_eq_some_iff.1 HBX.out).1 (by simp)).trans HBX.out
        have z1 : w1.cell? ⟨w.heap.size, 1, none⟩ = some (.int .i64 i) := by simp only [World.cell?, hbx1]; rfl
        have z2 : w1.cell? ⟨w.heap.size, 2, none⟩ = some (.int .i64 m) := by simp only [World.cell?, hbx1]; rfl
        have C2 := rhas wB.heap.size M lv cs N i m w1 HT1.out.rt (by omega)
        rw [decide_eq_true (by omega)] at C2
        have HC2 := hidden C2
        clear C1 hh1 hg1 hbx1 C2 y1 y2
        go_wp2_with fail
        refine HC2.out.mono ?_
        rintro q w2 ⟨rfl, rfl⟩
        clear HC2
        have C3 := rslice wB.heap.size M lv cs N i m w2 HT1.out.rt (by omega) (by omega)
        rw [He.out] at C3
        have HC3 := hidden C3
        clear C3
        go_wp2_with fail
        refine HC3.out.mono ?_
        rintro q w3 ⟨x, rfl, hL3⟩
        have HT3 := hidden (HT1.out.grown (grown_of_below hL3.2))
        have hrow := row_block (c := m) ((grown_of_below hL3.2).block _ (Array.getElem?_eq_some_iff.1 HH1.out).1 (by simp) |>.trans HH1.out)
        have hln : ((l.drop i).take m).length = m := by rw [List.length_take, List.length_drop]; omega
        rw [hln, World.size_alloc] at hrow
        have Hrow := hidden hrow
        have HL3 := hidden hL3.row
        obtain ⟨xa, xc, hxx⟩ := src_slice hL3.src
        rw [hln] at hxx
        subst hxx
        clear hL3 hrow HC3 z1 z2 hln
        go_wp2_with fail
        refine (same_any _ _ ((l.drop i).take m) w3 (fun x hx => Hb.out x (List.mem_of_mem_drop (List.mem_of_mem_take hx))) (by rw [List.length_take, List.length_drop]; omega) Hrow.out HL3.out).mono ?_
        rintro q w4 ⟨rfl, hb4⟩
        have HT4 := hidden (HT3.out.grown (grown_of_below hb4))
        clear hb4 HT3 HT1 Hrow HL3
        go_wp2
        go_ret
        exact ⟨l, O, lv, cs, N, rfl, HT4.out.more (by omega), He.out, Hb.out, by omega, hN.1, by omega⟩
      · have C1 := hidden (tx_slice_no HT.out.tx a.at' a.n hy)
        have C2 := rhas wB.heap.size M lv cs N a.at' a.n _ HT.out.rt (by omega)
        rw [decide_eq_false (by rw [hcl]; exact hy)] at C2
        have HC2 := hidden C2
        clear hy C2
        go_enter Try.func19, Try.ntmps19
        go_wp2_with fail
        refine C1.out.mono ?_
        rintro q w1 ⟨rfl, rfl⟩
        clear C1
        go_wp2_with fail
        refine HC2.out.mono ?_
        rintro q w2 ⟨rfl, rfl⟩
        clear HC2 y1 y2
        go_wp2
        go_ret
        exact ⟨l, O, lv, cs, N, rfl, HT.out.more (by omega), He.out, Hb.out, by omega, hN.1, by omega⟩
end
end Go.Proofs.PlatenPiece
