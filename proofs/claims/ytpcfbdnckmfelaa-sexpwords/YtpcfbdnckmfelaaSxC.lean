/- What blanks, token, sign of the reader come to. -/
import Derived.Test.YtpcfbdnckmfelaaSxB
namespace Go.Proofs.PlatenSexp
open Go Go.RowKit
set_option linter.unusedVariables false
set_option maxRecDepth 100000
variable {B R n : Nat} {w0 : World} {v : Value} {f : Nat → Nat} {w : World} {i d : Nat} {T : List Tk}

/-- Where the reader stands, as the world has it. -/
def atOf (R : Nat) (w : World) : Nat := (intOf ((w.cell? ⟨R, 1, none⟩).getD undef)).toNat
theorem Rd.at (h : Rd B R n w0 v f w i d T) : atOf R w = i := by
  obtain ⟨tv, h⟩ := h
  simp [atOf, h.c1, intOf]
theorem Rd.hf (h : Rd B R n w0 v f w i d T) : ∀ j, f j < 256 := h.choose_spec.hf
theorem Rd.hi (h : Rd B R n w0 v f w i d T) : i ≤ n := h.choose_spec.hi
theorem Rd.hn (h : Rd B R n w0 v f w i d T) : n ≤ 100000 := h.choose_spec.hn
theorem Rd.len (h : Rd B R n w0 v f w i d T) : T.length ≤ i := h.choose_spec.len
theorem Rd.drewN (h : Rd B R n w0 v f w i d T) (q : Nat) : Rd B R n w0 v f (w.drewN q) i d T := h.imp fun tv h => h.drewN q
theorem see_lt {s : ByteArray} (h : see f n i s = true) : i < n := by unfold see at h; simp at h; exact h.1
theorem see_b (h : Rd B R n w0 v f w i d T) : see f n i ⟨#[32, 9, 10, 13]⟩ = (decide (i < n) && isB (f i)) := by unfold see; rw [has_blank _ (h.hf i)]
theorem see_q3 (h : Rd B R n w0 v f w i d T) : see f n i ⟨#[39, 96, 44]⟩ = (decide (i < n) && (decide (f i = 39) || decide (f i = 96) || decide (f i = 44))) := by unfold see; rw [has_q3 _ (h.hf i)]
theorem see_q2 (h : Rd B R n w0 v f w i d T) : see f n i ⟨#[39, 96]⟩ = (decide (i < n) && (decide (f i = 39) || decide (f i = 96))) := by unfold see; rw [has_q2 _ (h.hf i)]
theorem see_1 (h : Rd B R n w0 v f w i d T) (b : UInt8) : see f n i ⟨#[b]⟩ = (decide (i < n) && decide (f i = b.toNat)) := by unfold see; rw [has_one _ _ (h.hf i)]

theorem take_dst {P : Program} {md : Region.Mode} {ops : Array Oper} {Q : Exit → Act → World → Prop} {S : World → Prop} (i : Nat) (d : Option Nat) {oi : Oper} {v : Value} {fuel : Nat} {listed : Array Bool} {a : Act} {w : World} (hi : ops[i]? = some oi) (hd : oi.dst = d)
    (hs : Region.noSelect ops = true) (hf : Region.free md ops listed i = true) (hr : (Region.ready md ops listed).contains i = true)
    (hQ : ∀ c a w, Q (.panic c) (a.put d v) w → Q (.panic c) a w) (hy : YieldsIf P ops S oi v a) (hS : S w)
    (h : wpAnyH P md ops Q S fuel (listed.setIfInBounds i true) (a.put d v) w) : wpAnyH P md ops Q S (fuel + 1) listed a w := by
  subst hd
  exact wpAnyH_take hi hs hf hr hQ hy hS h
theorem step_append_wh {P : Program} {ops : Array Oper} {o : Oper} {a : Act} {w : World} {K : Act → World → Prop} {Q : Exit → Act → World → Prop} {E : Prop} (hgd : o.guard = none) (s x : Operand) (t : TypeId)
    (hop : o.op = .call { callee := .builtin .append, args := #[s, x], argTypes := #[t, t] })
    (base : Nat) (e : TypeId) (i : TypeInfo) (z : Value) (size bytes : Nat) (ht : P.underlying t = some (.slice e)) (hi : P.info? e = some i) (hz : i.zero = some z)
    (hsize : i.size = size) (hby : i.bytes = bytes) (hzs : z.cells.size = size) (hsz : 0 < size)
    (v : Value) (n : Nat) (xs : List Value) (hs : a.eval s = v) (hown : w.ownsRow base e size v n xs)
    (ad : Addr) (m c : Nat) (news : List Value) (hx : a.eval x = .slice (some ad) m c) (hl : news.length = m * size) (hnews : ∀ j u, news[j]? = some u → w.cell? (ad.add j) = some u) (h1 : ∀ u ∈ news, u.oneCell' = true)
    (h63 : n + m ≤ maxLen) (hbytes : (n + m) * bytes ≤ 140737488355328) (hbase : base ≤ w.heap.size) (hm : 0 < m)
    (hK : ∀ v' w', Hid (w'.ownsRow base e size v' (n + m) (xs ++ news)) → Hid (w.grownBy w' v.ownBlock) → Hid (v'.ownBlock = v.ownBlock ∨ v'.ownBlock = some w.heap.size) → K (a.put o.dst v') w') :
    if Region.wanted o (yielded ops a.tmps) = true then Oper.wp P o a w K Q else E := by
  have hw : Region.wanted o (yielded ops a.tmps) = true := by simp [Region.wanted, hgd]
  rw [if_pos hw]
  obtain ⟨v', w', hrun, h2, h3, h4⟩ := run_append_at (P := P) w base t o.type e i z size bytes ht hi hz hsize hby hzs hsz v n xs hown ad m c news hl hnews h1 h63 hbytes hbase hm
  unfold Oper.wp
  simp [execOp, hop, resolve, invoke, builtin, hs, hx, hrun, Result.andThen]
  exact hK _ _ h2 h3 h4
theorem cells3e (X : World) (t : TypeId) (a b c : Value) : ∀ j u, [a, b, c][j]? = some u → (X.alloc (.cells #[a, b, c] t)).cell? ((⟨X.heap.size, 0, none⟩ : Addr).add j) = some u := by
  intro j u hj
  match j, hj with
  | 0, hj => simp at hj; subst hj; simp [Addr.add]
  | 1, hj => simp at hj; subst hj; simp [Addr.add]
  | 2, hj => simp at hj; subst hj; simp [Addr.add]
  | j + 3, hj => simp at hj
theorem row_slice {B : Nat} {w : World} {e : TypeId} {s n : Nat} {v : Value} {xs : List Value} (h : w.ownsRow B e s v n xs) : ∃ va vc, v = .slice va n vc := by
  rcases h.2 with ⟨e, h0⟩ | ⟨g, cap, cur, e, _⟩
  · exact ⟨none, 0, by rw [e, h0]⟩
  · exact ⟨_, _, e⟩

def BlP (B R n : Nat) (w0 : World) (v : Value) (f : Nat → Nat) (i d : Nat) (T : List Tk) (w : World) : Prop := ∃ j, Skp f n i j ∧ Rd B R n w0 v f w j d T
set_option maxHeartbeats 1000000 in
theorem blanks_any (h : Rd B R n w0 v f w i d T) :
    Calls Try.prog 16 #[.pointer (some ⟨R, 0, none⟩)] w fun e w' => e = .returned (.tuple #[]) ∧ BlP B R n w0 v f i d T w' := by
  have H := hidden h
  clear h
  go_enter Try.func16, Try.ntmps16
  go_wp2_with fail
  go_loopw [] (fun wr => ∃ j, i ≤ j ∧ (∀ k, i ≤ k → k < j → isB (f k) = true) ∧ Rd B R n w0 v f wr j d T) (fun wr => n - atOf R wr)
  case atStart => exact ⟨i, Nat.le_refl _, fun k h1 h2 => by omega, H.out⟩
  case round =>
    obtain ⟨j, hij, hall, hr⟩ := hrel
    have Hall := hidden hall
    have Hat := hidden hr.at
    cases hs : see f n j ⟨#[32, 9, 10, 13]⟩ with
    | true =>
      have ct := take_yes hr _ hs
      rw [see_b hr] at hs
      simp at hs
      have Hs := hidden hs
      clear hs hall hr
      go_wp2_with fail
      refine ct.mono ?_
      rintro e w1 ⟨rfl, h1⟩
      have H1 := hidden h1
      clear h1 ct
      go_wp2
      go_roundw
      case rel =>
        refine ⟨j + 1, by omega, fun k h1 h2 => ?_, H1.out⟩
        rcases Nat.lt_or_ge k j with q | q
        · exact Hall.out k h1 q
        · obtain rfl : k = j := by omega
          exact Hs.out.2
      case measure => rw [H1.out.at, Hat.out]; have := Hs.out.1; omega
    | false =>
      have ct := take_no hr _ hs
      rw [see_b hr] at hs
      have Hs : Hid (j < n → isB (f j) = false) := fun q => by simpa [q] using hs
      have Hn := hidden hr.hi
      clear hs hall hr
      go_wp2_with fail
      refine ct.mono ?_
      rintro e w1 ⟨rfl, h1⟩
      have H1 := hidden h1
      clear h1 ct
      go_wp2
      go_end0
      exact ⟨rfl, j, ⟨hij, Hn.out, Hall.out, Hs.out⟩, H1.out⟩
set_option maxHeartbeats 2000000 in
theorem token_any (h : Rd B R n w0 v f w i d T) (k s : Nat) (hk : k < 256) (hs : s ≤ i) (hT : T.length < i) :
    Calls Try.prog 32 #[.pointer (some ⟨R, 0, none⟩), .int .u8 (k : Nat), .int .i64 (s : Nat)] w fun e w' => e = .returned (.tuple #[]) ∧ BlP B R n w0 v f i d (T ++ [(k, s, i - s)]) w' := by
  obtain ⟨i0, hi, hz0, hz1, hz2⟩ := info_parts info34
  obtain ⟨tv, h⟩ := h
  have hn := h.hn
  have hin := h.hi
  have hib : i ≤ 100000 := by omega
  have H := hidden h.drew
  clear h
  go_enter Try.func32, Try.ntmps32
  go_wp2_with fail
  have wr1 : IntKind.i64.wrap ((i : Int) - (s : Int)) = (i : Int) - (s : Int) := IntWalk.i64_in _ (by omega)
  refine wp_region_held_drew (S := (fun u => u.cell? ⟨R, 1, none⟩ = some (.int .i64 (i : Nat)))) (by kernel_rfl) H.out.c1 (fun hHeld => ?_)
  generalize w.drew = w1 at *
  have C1 : Hid (w1.cell? ⟨R, 1, none⟩ = some (.int .i64 (i : Nat))) := H.out.c1
  refine take_dst 0 (some 6) rfl rfl (by kernel_rfl) (by kernel_rfl) (by kernel_rfl) (fun _ _ _ h => h) (v := ?_) (Or.inl ⟨by rfl, ?_⟩) (by assumption) ?_
  rotate_left
  · (intro w hSw; (try dsimp only at hSw); go_simp; try with_reducible rfl)
  simp only [Act.put, List.setIfInBounds_toArray, List.set_cons_zero, List.set_cons_succ]
  refine take_dst 1 (some 7) rfl rfl (by kernel_rfl) (by kernel_rfl) (by kernel_rfl) (fun _ _ _ h => h) (v := ?_) (Or.inl ⟨by rfl, ?_⟩) (by assumption) ?_
  rotate_left
  · (intro w hSw; (try dsimp only at hSw); go_simp; try with_reducible rfl)
  simp only [Act.put, List.setIfInBounds_toArray, List.set_cons_zero, List.set_cons_succ]
  refine take_dst 2 (some 8) rfl rfl (by kernel_rfl) (by kernel_rfl) (by kernel_rfl) (fun _ _ _ h => h) (v := ?_) (Or.inl ⟨by rfl, ?_⟩) (by assumption) ?_
  rotate_left
  · (intro w hSw; (try dsimp only at hSw); go_simp; try with_reducible rfl)
  simp only [Act.put, List.setIfInBounds_toArray, List.set_cons_zero, List.set_cons_succ]
  refine take_dst 3 (some 9) rfl rfl (by kernel_rfl) (by kernel_rfl) (by kernel_rfl) (fun _ _ _ h => h) (v := ?_) (Or.inl ⟨by rfl, ?_⟩) (by assumption) ?_
  rotate_left
  · (intro w hSw; (try dsimp only at hSw); go_simp; try with_reducible rfl)
  simp only [Act.put, List.setIfInBounds_toArray, List.set_cons_zero, List.set_cons_succ]
  refine take_dst 5 (some 11) rfl rfl (by kernel_rfl) (by kernel_rfl) (by kernel_rfl) (fun _ _ _ h => h) (v := ?_) (Or.inl ⟨by rfl, ?_⟩) (by assumption) ?_
  rotate_left
  · (intro w hSw; (try dsimp only at hSw); go_simp; try with_reducible rfl)
  simp only [Act.put, List.setIfInBounds_toArray, List.set_cons_zero, List.set_cons_succ]
  refine take_dst 6 (some 12) rfl rfl (by kernel_rfl) (by kernel_rfl) (by kernel_rfl) (fun _ _ _ h => h) (v := ?_) (Or.inl ⟨by rfl, ?_⟩) (by assumption) ?_
  rotate_left
  · (intro w hSw; (try dsimp only at hSw); go_simp; try with_reducible rfl)
  simp only [Act.put, List.setIfInBounds_toArray, List.set_cons_zero, List.set_cons_succ]
  refine take_dst 7 (some 13) rfl rfl (by kernel_rfl) (by kernel_rfl) (by kernel_rfl) (fun _ _ _ h => h) (v := ?_) (Or.inl ⟨by rfl, ?_⟩) (by assumption) ?_
  rotate_left
  · (intro w hSw; (try dsimp only at hSw); go_simp; try with_reducible rfl)
  simp only [Act.put, List.setIfInBounds_toArray, List.set_cons_zero, List.set_cons_succ]
  refine take_dst 8 (some 14) rfl rfl (by kernel_rfl) (by kernel_rfl) (by kernel_rfl) (fun _ _ _ h => h) (v := ?_) (Or.inl ⟨by rfl, ?_⟩) (by assumption) ?_
  rotate_left
  · (intro w hSw; (try dsimp only at hSw); go_simp; try with_reducible rfl)
  simp only [Act.put, List.setIfInBounds_toArray, List.set_cons_zero, List.set_cons_succ]
  refine take_dst 9 (some 15) rfl rfl (by kernel_rfl) (by kernel_rfl) (by kernel_rfl) (fun _ _ _ h => h) (v := ?_) (Or.inl ⟨by rfl, ?_⟩) (by assumption) ?_
  rotate_left
  · (intro w hSw; (try dsimp only at hSw); go_simp; try with_reducible rfl)
  simp only [Act.put, List.setIfInBounds_toArray, List.set_cons_zero, List.set_cons_succ]
  refine take_dst 10 (some 16) rfl rfl (by kernel_rfl) (by kernel_rfl) (by kernel_rfl) (fun _ _ _ h => h) (v := ?_) (Or.inl ⟨by rfl, ?_⟩) (by assumption) ?_
  rotate_left
  · (intro w hSw; (try dsimp only at hSw); go_simp; try with_reducible rfl)
  simp only [Act.put, List.setIfInBounds_toArray, List.set_cons_zero, List.set_cons_succ]
  refine take_dst 11 (some 17) rfl rfl (by kernel_rfl) (by kernel_rfl) (by kernel_rfl) (fun _ _ _ h => h) (v := ?_) (Or.inl ⟨by rfl, ?_⟩) (by assumption) ?_
  rotate_left
  · (intro w hSw; (try dsimp only at hSw); go_simp; try with_reducible rfl)
  simp only [Act.put, List.setIfInBounds_toArray, List.set_cons_zero, List.set_cons_succ]
  refine take_dst 12 (some 18) rfl rfl (by kernel_rfl) (by kernel_rfl) (by kernel_rfl) (fun _ _ _ h => h) (v := ?_) (Or.inl ⟨by rfl, ?_⟩) (by assumption) ?_
  rotate_left
  · (intro w hSw; (try dsimp only at hSw); go_simp; try with_reducible rfl)
  simp only [Act.put, List.setIfInBounds_toArray, List.set_cons_zero, List.set_cons_succ]
  refine take_dst 13 (some 19) rfl rfl (by kernel_rfl) (by kernel_rfl) (by kernel_rfl) (fun _ _ _ h => h) (v := ?_) (Or.inl ⟨by rfl, ?_⟩) (by assumption) ?_
  rotate_left
  · (intro w hSw; (try dsimp only at hSw); go_simp; try with_reducible rfl)
  simp only [Act.put, List.setIfInBounds_toArray, List.set_cons_zero, List.set_cons_succ]
  have H1 := hidden (H.out.grown (grownBy_alloc w1 (.cells #[.int .u8 (k : Nat), .int .i64 (s : Nat), .int .i64 ((i : Int) - (s : Int))] 34)))
  have c3 := H.out.c3
  refine wpAnyH_ready (rs := [4, 14]) (by kernel_rfl) (by simp) ?_
  refine AllReadyH.cons rfl (fun K hK => ?_) (AllReadyH.cons rfl (fun K hK => ?_) AllReadyH.nil)
  · go_simp
    refine hK.out _ _ C1.out (fun hHeld1 => ?_)
    clear hK K hHeld1
    refine wpAnyH_ready (rs := [14]) (by kernel_rfl) (by simp) ?_
    refine AllReadyH.cons rfl (fun K hK => ?_) AllReadyH.nil
    go_simp
    refine hK.out _ _ H1.out.c1 (fun hHeld2 => ?_)
    clear hK K hHeld2
    generalize hW : w1 = W at *
    refine wpAnyH_ready (rs := [15]) (by kernel_rfl) (by simp) ?_
    refine AllReadyH.cons rfl (fun K hK => ?_) AllReadyH.nil
    refine step_append_wh rfl (.tmp 10) (.tmp 20) 24 rfl B 34 i0 (.agg #[.int .u8 0, .int .i64 0, .int .i64 0]) 3 24 Try.underlying24 hi hz0 hz1 hz2 rfl (by decide) tv T.length (rowT T) (by simp [Act.eval]) H1.out.row ⟨W.heap.size, 0, none⟩ 1 1 [.int .u8 (k : Nat), .int .i64 (s : Nat), .int .i64 ((i : Int) - (s : Int))] (by simp [Act.eval]) rfl (cells3e _ _ _ _ _) (by intro u hu; simp at hu; rcases hu with rfl | rfl | rfl <;> rfl) (by unfold maxLen; omega) (by omega) H1.out.bs (by decide) ?_
    intro v' w3 hr3 hg3 _
    have HP : Hid (RS B R n w0 v f (w3.setCell ⟨R, 3, none⟩ v') v' i d (T ++ [(k, s, i - s)])) := H1.out.push hT (by rw [rowT_one, show (((i - s : Nat) : Nat) : Int) = (i : Int) - (s : Int) by omega]; exact hr3.out) hg3.out
    have hd3 : w3.heap[R]? = some (.cells #[v, .int .i64 (i : Nat), .int .i64 (d : Nat), tv] 41 (0, 0)) := (hg3.out.block R H1.out.lt (fun e => H1.out.own e.symm)).trans H1.out.head
    have e1 : w3.cell? ⟨R, 1, none⟩ = some (.int .i64 (i : Nat)) := by simp only [World.cell?, hd3]; rfl
    have e3 : w3.cell? ⟨R, 3, none⟩ = some tv := by simp only [World.cell?, hd3]; rfl
    have f3 : w3.frozen? ⟨R, 3, none⟩ = false := frozen_of_row w3 R 3 _ 41 hd3
    obtain ⟨va, vc, rfl⟩ := row_slice hr3.out
    have E1 : Hid ((w3.setCell ⟨R, 3, none⟩ (.slice va (T.length + 1) vc)).cell? ⟨R, 1, none⟩ = some (.int .i64 (i : Nat))) := HP.out.c1
    have E3 := hidden e1
    clear hr3 hg3 hd3
    refine hK.out _ _ E3.out (fun hHeld4 => ?_)
    clear hK K
    refine take_dst 16 (some 22) rfl rfl (by kernel_rfl) (by kernel_rfl) (by kernel_rfl) (fun _ _ _ h => h) (v := ?_) (Or.inl ⟨by rfl, ?_⟩) (by assumption) ?_
    rotate_left
    · (intro w hSw; (try dsimp only at hSw); go_simp; try with_reducible rfl)
    simp only [Act.put, List.setIfInBounds_toArray]
    refine take_dst 17 (some 23) rfl rfl (by kernel_rfl) (by kernel_rfl) (by kernel_rfl) (fun _ _ _ h => h) (v := ?_) (Or.inl ⟨by rfl, ?_⟩) (by assumption) ?_
    rotate_left
    · (intro w hSw; (try dsimp only at hSw); go_simp; try with_reducible rfl)
    simp only [Act.put]
    refine wpAnyH_ready (rs := [18]) (by kernel_rfl) (by simp) ?_
    refine AllReadyH.cons rfl (fun K hK => ?_) AllReadyH.nil
    go_simp
    refine hK.out _ _ E1.out (fun hHeld5 => ?_)
    clear hK K
    refine wpAnyH_done (by kernel_rfl) ?_ _
    clear hHeld4 hHeld5 e1 e3 f3
    go_wp2_with fail
    refine (blanks_any ⟨_, HP.out⟩).mono ?_
    rintro e w4 ⟨rfl, hb⟩
    have Hb := hidden hb
    clear hb
    go_wp2
    go_end0
    exact ⟨rfl, Hb.out⟩
  · go_simp
    refine hK.out _ _ H1.out.c1 (fun hHeld1 => ?_)
    clear hK K hHeld1
    have c31 := H1.out.c3
    refine wpAnyH_ready (rs := [4]) (by kernel_rfl) (by simp) ?_
    refine AllReadyH.cons rfl (fun K hK => ?_) AllReadyH.nil
    go_simp
    refine hK.out _ _ H1.out.c1 (fun hHeld2 => ?_)
    clear hK K hHeld2 c31
    generalize hW : w1 = W at *
    refine wpAnyH_ready (rs := [15]) (by kernel_rfl) (by simp) ?_
    refine AllReadyH.cons rfl (fun K hK => ?_) AllReadyH.nil
    refine step_append_wh rfl (.tmp 10) (.tmp 20) 24 rfl B 34 i0 (.agg #[.int .u8 0, .int .i64 0, .int .i64 0]) 3 24 Try.underlying24 hi hz0 hz1 hz2 rfl (by decide) tv T.length (rowT T) (by simp [Act.eval]) H1.out.row ⟨W.heap.size, 0, none⟩ 1 1 [.int .u8 (k : Nat), .int .i64 (s : Nat), .int .i64 ((i : Int) - (s : Int))] (by simp [Act.eval]) rfl (cells3e _ _ _ _ _) (by intro u hu; simp at hu; rcases hu with rfl | rfl | rfl <;> rfl) (by unfold maxLen; omega) (by omega) H1.out.bs (by decide) ?_
    intro v' w3 hr3 hg3 _
    have HP : Hid (RS B R n w0 v f (w3.setCell ⟨R, 3, none⟩ v') v' i d (T ++ [(k, s, i - s)])) := H1.out.push hT (by rw [rowT_one, show (((i - s : Nat) : Nat) : Int) = (i : Int) - (s : Int) by omega]; exact hr3.out) hg3.out
    have hd3 : w3.heap[R]? = some (.cells #[v, .int .i64 (i : Nat), .int .i64 (d : Nat), tv] 41 (0, 0)) := (hg3.out.block R H1.out.lt (fun e => H1.out.own e.symm)).trans H1.out.head
    have e1 : w3.cell? ⟨R, 1, none⟩ = some (.int .i64 (i : Nat)) := by simp only [World.cell?, hd3]; rfl
    have e3 : w3.cell? ⟨R, 3, none⟩ = some tv := by simp only [World.cell?, hd3]; rfl
    have f3 : w3.frozen? ⟨R, 3, none⟩ = false := frozen_of_row w3 R 3 _ 41 hd3
    obtain ⟨va, vc, rfl⟩ := row_slice hr3.out
    have E1 : Hid ((w3.setCell ⟨R, 3, none⟩ (.slice va (T.length + 1) vc)).cell? ⟨R, 1, none⟩ = some (.int .i64 (i : Nat))) := HP.out.c1
    have E3 := hidden e1
    clear hr3 hg3 hd3
    refine hK.out _ _ E3.out (fun hHeld4 => ?_)
    clear hK K
    refine take_dst 16 (some 22) rfl rfl (by kernel_rfl) (by kernel_rfl) (by kernel_rfl) (fun _ _ _ h => h) (v := ?_) (Or.inl ⟨by rfl, ?_⟩) (by assumption) ?_
    rotate_left
    · (intro w hSw; (try dsimp only at hSw); go_simp; try with_reducible rfl)
    simp only [Act.put, List.setIfInBounds_toArray]
    refine take_dst 17 (some 23) rfl rfl (by kernel_rfl) (by kernel_rfl) (by kernel_rfl) (fun _ _ _ h => h) (v := ?_) (Or.inl ⟨by rfl, ?_⟩) (by assumption) ?_
    rotate_left
    · (intro w hSw; (try dsimp only at hSw); go_simp; try with_reducible rfl)
    simp only [Act.put]
    refine wpAnyH_ready (rs := [18]) (by kernel_rfl) (by simp) ?_
    refine AllReadyH.cons rfl (fun K hK => ?_) AllReadyH.nil
    go_simp
    refine hK.out _ _ E1.out (fun hHeld5 => ?_)
    clear hK K
    refine wpAnyH_done (by kernel_rfl) ?_ _
    clear hHeld4 hHeld5 e1 e3 f3
    go_wp2_with fail
    refine (blanks_any ⟨_, HP.out⟩).mono ?_
    rintro e w4 ⟨rfl, hb⟩
    have Hb := hidden hb
    clear hb
    go_wp2
    go_end0
    exact ⟨rfl, Hb.out⟩
set_option maxHeartbeats 1000000 in
theorem sign_yes (h : Rd B R n w0 v f w i d T) (k : Nat) (hk : k < 256) (s : ByteArray) (hs : see f n i s = true) :
    Calls Try.prog 33 #[.pointer (some ⟨R, 0, none⟩), .int .u8 (k : Nat), .string s] w fun e w' => e = .returned (.tuple #[]) ∧ BlP B R n w0 v f (i + 1) d (T ++ [(k, i, 1)]) w' := by
  have cn := need_yes h s hs
  have hl := h.len
  obtain ⟨tv, h⟩ := h
  have c1 := h.c1
  have Hl := hidden hl
  clear h hs hl
  go_enter Try.func33, Try.ntmps33
  go_wp2_with fail
  refine cn.mono ?_
  rintro e w' ⟨rfl, h1⟩
  have ct := token_any h1 k i hk (Nat.le_succ _) (by have := Hl.out; omega)
  rw [show i + 1 - i = 1 by omega] at ct
  clear h1 cn c1
  go_wp2_with fail
  refine ct.mono ?_
  rintro e w' ⟨rfl, hb⟩
  have Hb := hidden hb
  clear hb ct
  go_wp2
  go_end0
  exact ⟨rfl, Hb.out⟩
set_option maxHeartbeats 1000000 in
theorem sign_no (h : Rd B R n w0 v f w i d T) (k : Nat) (s : ByteArray) (hs : see f n i s = false) :
    Calls Try.prog 33 #[.pointer (some ⟨R, 0, none⟩), .int .u8 (k : Nat), .string s] w fun e w' => e = Boom i 5 ∧ Rd B R n w0 v f w' i d T := by
  have cn := need_no h s hs
  obtain ⟨tv, h⟩ := h
  have c1 := h.c1
  clear h hs
  go_enter Try.func33, Try.ntmps33
  go_wp2_with fail
  refine cn.mono ?_
  rintro e w' ⟨rfl, h1⟩
  have H1 := hidden h1
  clear h1 cn c1
  go_wp2
  exact ⟨rfl, rfl, H1.out⟩

end Go.Proofs.PlatenSexp
