/- A number's text, byte by byte, is a number's for the document; which words are infinite; what may follow a text. -/
import Derived.Test.YtgijplljpimbmaaGreatDoorKI
import Derived.Test.YtgijplljpimbmaaGreatDoorFgRf
import Derived.Test.YtgijplljpimbmaaGreatDoorKM
import Derived.Test.YtgijplljpimbmaaGreatDoorFgN
import Derived.Test.YtgijplljpimbmaaGreatDoorKE
namespace Go.Proofs.PlatenFigure
open Go.RowKit
set_option linter.unusedVariables false
set_option linter.unusedSimpArgs false

theorem nan_field (x : Nat) (hx : x < 18446744073709551616) (hf : x / 4503599627370496 % 2048 = 2047) : nanW x = true ∨ x = 9218868437227405312 ∨ x = 18442240474082181120 := by
  by_cases q : x % 2 ^ 63 = 2047 * 2 ^ 52
  · right
    omega
  · left
    unfold nanW Ieee.Format.read
    simp only [sign_weight, binade_is, inf_rung]
    generalize hr : x % 2 ^ 63 = r at *
    have h1 : 2047 * 2 ^ 52 < r := by omega
    have h2 : 2 ^ 52 < r := by omega
    rw [if_neg (by omega), if_neg (by omega), if_neg (by omega)]
    rfl
def u8s (l : List Nat) : List UInt8 := l.map UInt8.ofNat
theorem u8s_app (a b : List Nat) : u8s (a ++ b) = u8s a ++ u8s b := by simp [u8s]
theorem u8s_len (a : List Nat) : (u8s a).length = a.length := by simp [u8s]
theorem dg_ofN {c : Nat} (h : 48 ≤ c ∧ c ≤ 57) : dg (UInt8.ofNat c) = true := by
  simp only [dg, decide_eq_true_eq, UInt8.toNat_ofNat']
  omega
theorem dgs_ofN {a : List Nat} (h0 : a ≠ []) (h : DgN a) : Dg (u8s a) := by
  refine ⟨by simpa [u8s] using h0, ?_⟩
  rw [List.all_eq_true]
  intro c hc
  simp only [u8s, List.mem_map] at hc
  obtain ⟨n, hn, rfl⟩ := hc
  exact dg_ofN (h n hn)
theorem fr_ofN {f : List Nat} (h : FrN f) : Fr (u8s f) := by
  rcases h with rfl | ⟨b, rfl, h0, h1⟩
  · exact .inl rfl
  · exact .inr ⟨u8s b, rfl, dgs_ofN h0 h1⟩
theorem ex_ofN {x : List Nat} (h : ExN x) : Ex (u8s x) := by
  rcases h with rfl | ⟨s, u, rfl, hs, h0, h1⟩
  · exact .inl rfl
  · refine .inr ⟨101, u8s (s :: u), rfl, by decide, ?_⟩
    have e : sg1 (u8s (s :: u)) = 1 := by
      show sg1 (UInt8.ofNat s :: u8s u) = 1
      rw [sg1_cons, if_pos]
      rcases hs with rfl | rfl
      · exact .inr (by decide)
      · exact .inl (by decide)
    rw [e]
    exact dgs_ofN h0 h1
theorem sg_ofN {s a : List Nat} (hs : SgN s) (h0 : a ≠ []) (h : DgN a) (r : List Nat) : sg1 (u8s (s ++ (a ++ r))) = s.length := by
  rcases hs with rfl | rfl
  · rcases a with _ | ⟨c, t⟩
    · exact absurd rfl h0
    · have hc := h c (by simp)
      show sg1 (UInt8.ofNat c :: u8s (t ++ r)) = 0
      rw [sg1_cons, if_neg]
      simp only [UInt8.toNat_ofNat']
      omega
  · show sg1 (45 :: u8s (a ++ r)) = 1
    rw [sg1_cons, if_pos (by decide)]
theorem nmN_ris {l : List Nat} (h : NmN l) : ris (u8s l) = true := by
  obtain ⟨s, a, f, x, rfl, hs, h0, ha, hf, hx, hl⟩ := h
  rw [ris_iff, sg_ofN hs h0 ha]
  right
  rw [u8s_app, show s.length = (u8s s).length from (u8s_len s).symm, List.drop_left, u8s_app, u8s_app]
  exact ⟨_, _, _, rfl, dgs_ofN h0 ha, fr_ofN hf, ex_ofN hx⟩
/-- The text of such bytes. -/
def tx (l : List Nat) : ByteArray := ⟨(l.map UInt8.ofNat).toArray⟩
theorem tx_L (l : List Nat) : L (tx l) = u8s l := by simp [tx, L, u8s]
/-- A text that Show may answer. -/
def ShT (s : ByteArray) : Prop := ris (L s) = true ∧ s.size ≤ 60
theorem tx_sht {l : List Nat} (h : NmN l) : ShT (tx l) := by
  refine ⟨by rw [tx_L]; exact nmN_ris h, ?_⟩
  obtain ⟨s, a, f, x, rfl, hs, h0, ha, hf, hx, hl⟩ := h
  rw [← len_L, tx_L, u8s_len]
  exact hl
theorem lit_nan : ShT ⟨#[110, 97, 110]⟩ := ⟨by decide, by decide⟩
theorem lit_inf : ShT ⟨#[105, 110, 102]⟩ := ⟨by decide, by decide⟩
theorem lit_ninf : ShT ⟨#[45, 105, 110, 102]⟩ := ⟨by decide, by decide⟩
theorem ris_no32 {m : List UInt8} (h : ris m = true) : ∀ c ∈ m, c.toNat ≠ 32 := by
  intro c hc
  have hc' : c ∈ m.take (sg1 m) ∨ c ∈ m.drop (sg1 m) := by
    rw [← List.mem_append, List.take_append_drop]
    exact hc
  rcases hc' with h1 | h1
  · cases m with
    | nil => simp at h1
    | cons a t =>
      rw [sg1_cons] at h1
      split at h1
      · simp at h1
        subst h1
        omega
      · simp at h1
  · rw [ris_iff] at h
    rcases h with (h | h) | h
    · rw [h] at h1
      simp at h1
      rcases h1 with rfl | rfl | rfl <;> decide
    · rw [h] at h1
      simp at h1
      rcases h1 with rfl | rfl | rfl <;> decide
    · exact part32 (List.all_eq_true.1 (nm_parts h) _ h1)
/-- What stands behind a number and a blank is no part of it. -/
theorem flen_behind {l : List UInt8} (h : ris l = true) (r : List UInt8) : flen (l ++ 32 :: r) = l.length := by
  have h1 := flen_le (l ++ 32 :: r)
  have h2 : l.length ≤ flen (l ++ 32 :: r) := flen_max (by simp) (by rw [List.take_left]; exact h)
  by_cases q : flen (l ++ 32 :: r) = l.length
  · exact q
  · exfalso
    have h3 : ris ((l ++ 32 :: r).take (flen (l ++ 32 :: r))) = true := flen_ris (by have := ((is_flen l).1 h).1; omega)
    refine ris_no32 h3 32 ?_ rfl
    rw [List.mem_iff_getElem?]
    refine ⟨l.length, ?_⟩
    rw [List.getElem?_take_of_lt (by omega), List.getElem?_append_right (Nat.le_refl _)]
    simp
end Go.Proofs.PlatenFigure

/- What strconv.FormatFloat and figure.Show come to in general: a number's text. -/
namespace Go.Proofs.PlatenFigure
open Go.RowKit Go.Shelf
set_option linter.unusedVariables false
set_option linter.unusedSimpArgs false

theorem DgN.small {l : List Nat} (h : DgN l) : ∀ c ∈ l, c < 256 := fun c hc => by have := h c hc; omega
theorem nmN_small {l : List Nat} (h : NmN l) : ∀ c ∈ l, c < 256 := by
  obtain ⟨s, a, f, x, rfl, hs, h0, ha, hf, hx, hl⟩ := h
  intro c hc
  simp only [List.mem_append] at hc
  rcases hc with hc | hc | hc | hc
  · rcases hs with rfl | rfl
    · simp at hc
    · simp at hc
      omega
  · exact ha.small c hc
  · rcases hf with rfl | ⟨b, rfl, _, hb⟩
    · simp at hc
    · rcases List.mem_cons.1 hc with hc | hc
      · omega
      · exact hb.small c hc
  · rcases hx with rfl | ⟨t, u, rfl, ht, _, hu⟩
    · simp at hc
    · rcases List.mem_cons.1 hc with hc | hc
      · omega
      · rcases List.mem_cons.1 hc with hc | hc
        · omega
        · exact hu.small c hc
set_option maxRecDepth 20000 in
set_option maxHeartbeats 4000000 in
theorem format_any (x : Nat) (w : World) (hx : x < 18446744073709551616) (hf : x / 4503599627370496 % 2048 ≠ 2047) (hL : Lay w) :
    Calls Tryz.prog 53 #[.float .f64 x, .int .u8 103, .int .i64 (-1), .int .i64 64] w fun e w' => ∃ l, NmN l ∧ e = .returned (.string (tx l)) ∧ Below w.heap.size w w' := by
  obtain ⟨i0, hi, hz0, hz1, hz2⟩ := parts_of info5
  have m1 : max (3 : Int) 24 = 24 := by decide
  have HL := hidden hL
  have h0 := hL.hw
  clear hL
  go_enter Tryz.func53, Tryz.ntmps53
  go_wp2_with (refine wpList_make_own _ rfl _ _ 68 rfl w.heap.size 5 i0 (.int .u8 0) 1 Tryz.underlying68 hi hz0 hz1 .i64 .i64 24 24 rfl rfl rfl (by rw [hz2]; decide) (by decide) (Nat.le_refl _) ?_)
  intro w1 hown hg
  have HB1 := hidden (show Below w.heap.size w w1 from (Below.refl _ _).grown hg (Nat.le_refl _) (fun k hk => by cases hk))
  have c1 := ftoa_any w.heap.size x _ w1 hx hf (HL.out.below HB1.out) hown HB1.out.size (by omega)
  clear hown hg hi hz0 hz1 hz2 hf
  go_wp2_with fail
  refine c1.mono ?_
  rintro e w2 ⟨v', l, rfl, hl, ho2, hb2⟩
  have hs : (convert 68 9 v').run Tryz.prog w2 = .ok (.string (tx l)) w2 := str_own ho2 (nmN_small hl)
  have HB2 := hidden (HB1.out.trans hb2)
  have HN := hidden hl
  clear ho2 hb2 c1 hl
  go_wp2
  go_ret
  exact ⟨l, HN.out, rfl, HB2.out⟩
set_option maxRecDepth 20000 in
theorem sformat_any (x : Nat) (w : World) (hx : x < 18446744073709551616) (hf : x / 4503599627370496 % 2048 ≠ 2047) (hL : Lay w) :
    Calls Tryz.prog 42 #[.float .f64 x, .int .u8 103, .int .i64 (-1), .int .i64 64] w fun e w' => ∃ s, ShT s ∧ e = .returned (.string s) ∧ Below w.heap.size w w' := by
  have c1 := format_any x w hx hf hL
  clear hL hf
  go_enter Tryz.func42, Tryz.ntmps42
  go_wp2_with fail
  refine c1.mono ?_
  rintro e w2 ⟨l, hl, rfl, hb⟩
  have HB := hidden hb
  have HS := hidden (tx_sht hl)
  clear hb c1 hl
  generalize tx l = s at *
  go_wp2
  go_ret
  exact ⟨s, HS.out, rfl, HB.out⟩
set_option maxRecDepth 20000 in
theorem isinf_1 (x : Nat) (w : World) : Calls Tryz.prog 41 #[.float .f64 x, .int .i64 1] w fun e w' => (∃ b : Bool, e = .returned (.bool b)) ∧ w' = w := by
  cases h : FloatKind.f64.format.order x 9218868437227405311 with
  | none =>
    go_enter Tryz.func41, Tryz.ntmps41
    go_wp2
    go_ret
    exact ⟨⟨_, rfl⟩, rfl⟩
  | some o =>
    cases o
    all_goals
      go_enter Tryz.func41, Tryz.ntmps41
      go_wp2
      go_ret
      exact ⟨⟨_, rfl⟩, rfl⟩
set_option maxRecDepth 20000 in
theorem isinf_2 (x : Nat) (w : World) : Calls Tryz.prog 41 #[.float .f64 x, .int .i64 (-1)] w fun e w' => (∃ b : Bool, e = .returned (.bool b)) ∧ w' = w := by
  have h0 := run_neg x w
  generalize negF x = y at *
  cases h : FloatKind.f64.format.order y 9218868437227405311 with
  | none =>
    go_enter Tryz.func41, Tryz.ntmps41
    go_wp2
    go_ret
    exact ⟨⟨_, rfl⟩, rfl⟩
  | some o =>
    cases o
    all_goals
      go_enter Tryz.func41, Tryz.ntmps41
      go_wp2
      go_ret
      exact ⟨⟨_, rfl⟩, rfl⟩
set_option maxRecDepth 20000 in
theorem inf_1 (w : World) : Calls Tryz.prog 41 #[.float .f64 9218868437227405312, .int .i64 1] w fun e w' => e = .returned (.bool true) ∧ w' = w := by
  have h : FloatKind.f64.format.order 9218868437227405312 9218868437227405311 = some .gt := by decide +kernel
  go_enter Tryz.func41, Tryz.ntmps41
  go_wp2
  go_ret
  exact ⟨rfl, rfl⟩
set_option maxRecDepth 20000 in
theorem inf_2 (w : World) : Calls Tryz.prog 41 #[.float .f64 18442240474082181120, .int .i64 (-1)] w fun e w' => e = .returned (.bool true) ∧ w' = w := by
  have h0 := run_neg 18442240474082181120 w
  rw [show negF 18442240474082181120 = 9218868437227405312 by decide +kernel] at h0
  have h : FloatKind.f64.format.order 9218868437227405312 9218868437227405311 = some .gt := by decide +kernel
  go_enter Tryz.func41, Tryz.ntmps41
  go_wp2
  go_ret
  exact ⟨rfl, rfl⟩
def ShR (w : World) (e : Ending) (w' : World) : Prop := ∃ s, ShT s ∧ e = .returned (.string s) ∧ Below w.heap.size w w'
set_option maxRecDepth 20000 in
set_option maxHeartbeats 1000000 in
theorem show_any (x : Nat) (w : World) (hx : x < 18446744073709551616) (hL : Lay w) : Calls Tryz.prog 22 #[.float .f64 x] w (ShR w) := by
  have c0 := isnan_any x w
  have c1 := isinf_1 x w
  have c2 := isinf_2 x w
  have HR := hidden (Below.refl w.heap.size w)
  unfold ShR
  cases hn : nanW x
  · rw [hn] at c0
    by_cases hf : x / 4503599627370496 % 2048 = 2047
    · rcases nan_field x hx hf with h | rfl | rfl
      · rw [hn] at h
        cases h
      · have c1 := inf_1 w
        clear hn hf hx hL
        go_enter Tryz.func22, Tryz.ntmps22
        go_wp2_with fail
        refine c0.mono ?_
        rintro e w2 ⟨rfl, rfl⟩
        go_wp2_with fail
        refine c1.mono ?_
        rintro e w2 ⟨rfl, rfl⟩
        go_wp2_with fail
        go_ret
        exact ⟨_, lit_inf, rfl, HR.out⟩
      · have c3 := inf_2 w
        clear hn hf hx hL
        go_enter Tryz.func22, Tryz.ntmps22
        go_wp2_with fail
        refine c0.mono ?_
        rintro e w2 ⟨rfl, rfl⟩
        go_wp2_with fail
        refine c1.mono ?_
        rintro e w2 ⟨⟨b, rfl⟩, rfl⟩
        cases b
        · go_wp2_with fail
          refine c3.mono ?_
          rintro e w2 ⟨rfl, rfl⟩
          go_wp2_with fail
          go_ret
          exact ⟨_, lit_ninf, rfl, HR.out⟩
        · go_wp2_with fail
          go_ret
          exact ⟨_, lit_inf, rfl, HR.out⟩
    · have c3 := sformat_any x w hx hf hL
      clear hn hf hx hL
      go_enter Tryz.func22, Tryz.ntmps22
      go_wp2_with fail
      refine c0.mono ?_
      rintro e w2 ⟨rfl, rfl⟩
      go_wp2_with fail
      refine c1.mono ?_
      rintro e w2 ⟨⟨b, rfl⟩, rfl⟩
      cases b
      · go_wp2_with fail
        refine c2.mono ?_
        rintro e w2 ⟨⟨b, rfl⟩, rfl⟩
        cases b
        · go_wp2_with fail
          refine c3.mono ?_
          rintro e w2 ⟨s, hs, rfl, hb⟩
          have HB := hidden hb
          have HS := hidden hs
          clear hb hs c3
          go_wp2_with fail
          go_ret
          exact ⟨_, HS.out, rfl, HB.out⟩
        · go_wp2_with fail
          go_ret
          exact ⟨_, lit_ninf, rfl, HR.out⟩
      · go_wp2_with fail
        go_ret
        exact ⟨_, lit_inf, rfl, HR.out⟩
  · rw [hn] at c0
    clear hn hx hL
    go_enter Tryz.func22, Tryz.ntmps22
    go_wp2_with fail
    refine c0.mono ?_
    rintro e w2 ⟨rfl, rfl⟩
    go_wp2_with fail
    go_ret
    exact ⟨_, lit_nan, rfl, HR.out⟩
end Go.Proofs.PlatenFigure

/- What FigureEnds comes to. -/
namespace Go.Proofs.PlatenFigure
open Go.RowKit
set_option linter.unusedVariables false
set_option linter.unusedSimpArgs false

theorem L_eq {a b : ByteArray} (h : L a = L b) : a = b := (L_inj h).trans (L_inj (s := b) rfl).symm
theorem ext_front (s t : ByteArray) : (s ++ t).extract 0 (0 + s.size) = s := by
  apply L_eq
  rw [L_ext, L_app, List.drop_zero, ← len_L]
  simp
set_option maxRecDepth 20000 in
set_option maxHeartbeats 4000000 in
theorem ends_law (b : Nat) (more : ByteArray) (w : World) (hb : b < 18446744073709551616) (hL : Lay w) :
    Calls Tryz.prog 10 #[.int .u64 b, .string more] w fun e w' => e = .returned (.bool true) ∧ Below w.heap.size w w' := by
  have c0 := reads_any w hL
  have HL := hidden hL
  clear hL
  by_cases hs : 60 < more.size
  · go_enter Tryz.func10, Tryz.ntmps10
    go_wp2_with fail
    refine c0.mono ?_
    rintro e w1 ⟨rfl, hb⟩
    have HB := hidden hb
    have c1 := reads_any w1 (HL.out.below hb)
    clear hb c0
    go_wp2_with fail
    refine c1.mono ?_
    rintro e w2 ⟨rfl, hb2⟩
    have HB2 := hidden (HB.out.trans (hb2.mono HB.out.size))
    clear hb2
    go_wp2_with fail
    go_ret
    exact ⟨rfl, HB2.out⟩
  · have g1 : ∀ w, (callFunc 21 #[.int .u64 (b : Int)]).run Tryz.prog w = .ok (.value (.float .f64 b)) w := fun w => ffrom b w
    have cs := fun (w2 : World) (h : Lay w2) => show_any b w2 hb h
    go_enter Tryz.func10, Tryz.ntmps10
    go_wp2_with fail
    refine c0.mono ?_
    rintro e w1 ⟨rfl, hb1⟩
    have HB := hidden hb1
    have cs := cs w1 (HL.out.below hb1)
    clear hb1 c0
    go_wp2_with fail
    refine cs.mono ?_
    rintro e w2 ⟨s, ⟨hr, hz⟩, rfl, hb2⟩
    have HB2 := hidden (HB.out.trans (hb2.mono HB.out.size))
    obtain ⟨x, hx, hv⟩ := parses60.rval s hz hr
    have hpos : 0 < s.size := by have := ((is_flen (L s)).1 hr).1; rwa [len_L] at this
    have e1 : (s ++ ⟨#[32]⟩) ++ more = s ++ (⟨#[32]⟩ ++ more) := ByteArray.append_assoc
    have hfl : flen (L ((s ++ ⟨#[32]⟩) ++ more)) = s.size := by
      rw [L_app, L_app, List.append_assoc, show L (⟨#[32]⟩ : ByteArray) = [32] from rfl, List.singleton_append, flen_behind hr, len_L]
    have hsz : ((s ++ ⟨#[32]⟩) ++ more).size ≤ 130 := by
      rw [ByteArray.size_append, ByteArray.size_append]
      show s.size + 1 + more.size ≤ 130
      omega
    have hsz0 : 0 < ((s ++ ⟨#[32]⟩) ++ more).size := by
      rw [ByteArray.size_append, ByteArray.size_append]
      omega
    have c1 := fun (w3 : World) (h : Lay w3) => ffirst_some ((s ++ ⟨#[32]⟩) ++ more) w3 (by omega) 0 s.size x hsz0 (fun j hj => absurd hj (Nat.not_lt_zero _)) (by rw [List.drop_zero]; exact hfl) hpos (by rw [e1, ext_front]; exact hv) h
    have c2 := fun (w3 : World) (h : Lay w3) => fread_yes s x w3 h (by omega) hr hv
    have c3 := fun w3 => same_self x hx w3
    have c4 := fun w3 => len_any ((s ++ ⟨#[32]⟩) ++ more) w3 (by omega)
    rw [hfl] at c4
    have hx2 := hidden hx
    have c1 := c1 w2 (HL.out.below HB2.out)
    clear hb2 cs hr hv hx e1 hfl hsz hsz0 hb g1
    go_wp2_with fail
    refine c1.mono ?_
    rintro e w3 ⟨rfl, hb3⟩
    have HB3 := hidden (HB2.out.trans (hb3.mono HB2.out.size))
    have c2 := c2 w3 (HL.out.below HB3.out)
    clear hb3
    go_wp2_with fail
    refine c2.mono ?_
    rintro e w4 ⟨rfl, hb4⟩
    have HB4 := hidden (HB3.out.trans (hb4.mono HB3.out.size))
    clear hb4
    go_wp2_with fail
    refine (c3 _).mono ?_
    rintro e w5 ⟨rfl, rfl⟩
    go_wp2_with fail
    refine (c4 _).mono ?_
    rintro e w6 ⟨rfl, hb6⟩
    have HB6 := hidden (HB4.out.trans (hb6.mono HB4.out.size))
    clear hb6
    go_wp2_with fail
    go_ret
    exact ⟨by simp, HB6.out⟩
end Go.Proofs.PlatenFigure
