/- Texts that are made of S-expressions' own bytes. -/
import Derived.Test.YtpcfbdnckmfelaaArgs
namespace Go.Proofs.Ytpcfbdnckmfelaa
open Go.ChangeShapes Go.WideShapes Go.ChangeAt Go.RowKit Go.Proofs.PlatenSexp
set_option linter.unusedVariables false
set_option maxRecDepth 100000

def SG : List Nat := [40, 40, 40, 41, 41, 41, 34, 92, 39, 96, 44, 44, 64, 97, 43, 49, 59, 32, 10, 127, 1]
def sgn (c : Nat) : Nat := SG.getD (c % 21) 0
abbrev SGs : ByteArray := ⟨#[40, 40, 40, 41, 41, 41, 34, 92, 39, 96, 44, 44, 64, 97, 43, 49, 59, 32, 10, 127, 1]⟩
theorem sgn_lt (c : Nat) : sgn c < 256 := by
  have : ∀ k, k < 21 → SG.getD k 0 < 256 := by decide
  exact this _ (Nat.mod_lt _ (by decide))
/-- n bytes as cells. -/
def rowG (g : Nat → Nat) (n : Nat) : List Value := (List.range n).map fun j => Value.int .u8 (g j : Nat)
theorem rowG_succ (g : Nat → Nat) (n : Nat) : rowG g (n + 1) = rowG g n ++ [.int .u8 (g n : Nat)] := by simp [rowG, List.range_succ]
theorem row_of {w : World} {B : Nat} {v : Value} {n : Nat} {g : Nat → Nat} (h : w.ownsRow B 5 1 v n (rowG g n)) : Row w v n g := by
  have hcl := fun b => h.cells (g := b)
  rcases h.2 with ⟨rfl, h0⟩ | ⟨b, cap, cur, rfl, hbg, hg, hnc, hcm, hcs, htake⟩
  · exact ⟨none, 0, by rw [h0], fun hl => by omega⟩
  · refine ⟨_, cap, rfl, fun _ => ⟨b, 0, rfl, hnc, fun j hj => ?_⟩⟩
    have := hcl b rfl j (.int .u8 (g j : Nat)) (by simp [rowG, hj])
    have ea : ∀ j, (⟨b, 0, none⟩ : Addr).add j = ⟨b, j, none⟩ := fun j => by unfold Addr.add; split <;> simp_all
    rw [ea] at this
    rw [Nat.zero_add]; exact this
theorem below_append1 {B s : Nat} {e : TypeId} {w wr w1 : World} {v : Value} {n : Nat} {xs : List Value} {o : Obj} (hB : B ≤ wr.heap.size) (hown : wr.ownsRow B e s v n xs) (hnx : Below B w wr) (hg : (wr.alloc o).grownBy w1 v.ownBlock) : Below B w w1 :=
  (hnx.alloc hB o).grown hg (by simp; omega) (fun j hj => (hown.lt j hj).1)
theorem cell_new (X : World) (t : TypeId) (a : Value) : (X.alloc (.cells #[a] t)).cell? ⟨X.heap.size, 0, none⟩ = some a := by
  have := heap_alloc_new X (.cells #[a] t)
  unfold World.cell?
  rw [this]
  rfl
theorem cell1 (X : World) (t : TypeId) (a : Value) : ∀ j u, [a][j]? = some u → (X.alloc (.cells #[a] t)).cell? ((⟨X.heap.size, 0, none⟩ : Addr).add j) = some u := by
  intro j u hj
  match j, hj with
  | 0, hj =>
    simp at hj
    subst hj
    exact cell_new X t a
  | j + 1, hj => simp at hj
theorem one1 (c : Int) : ∀ u ∈ [Value.int .u8 c], u.oneCell' = true := by
  intro u hu
  simp at hu
  rcases hu with rfl
  rfl
theorem c3_of {k : Nat} (h : k ≤ 5000) : k + 1 ≤ maxLen ∧ (k + 1) * 1 ≤ 140737488355328 := by unfold maxLen; omega
theorem c5_of {B : Nat} {w : World} {o : Obj} (h : B ≤ w.heap.size) : B ≤ (w.alloc o).heap.size := by simp; omega
theorem sg_fin : ∀ k : Fin 21, (SGs[k.val]'(show k.val < SGs.size from k.isLt)).toNat = SG.getD k.val 0 := by decide +kernel
theorem sg_get (c : Nat) (h : c % 21 < SGs.size) : (SGs[c % 21]'h).toNat = sgn c := sg_fin ⟨c % 21, Nat.mod_lt _ (by decide)⟩
theorem info5 : (Try.prog.info? 5).map (fun i => (i.zero, i.size, i.bytes)) = some (some (.int .u8 0), 1, 1) := by kernel_rfl
/-- What text answers. -/
def TxP (w : World) (f : Nat → Nat) (n : Nat) (e : Ending) (w' : World) : Prop :=
  ∃ p, e = .returned p ∧ w'.ownsRow w.heap.size 5 1 p n (rowG (fun j => sgn (f j)) n) ∧ Below w.heap.size w w'
set_option maxHeartbeats 4000000 in
theorem text_any (v : Value) (n : Nat) (f : Nat → Nat) (w : World) (hf : ∀ j, f j < 256) (hr : Row w v n f) (hn : n ≤ 120) : Calls Try.prog 14 #[v] w (TxP w f n) := by
  have HR := hidden hr
  obtain ⟨a, cap, rfl, _⟩ := hr
  have Hf := hidden hf
  have Hn := hidden hn
  obtain ⟨i0, hi, hz0, hz1, hz2⟩ := info_parts info5
  clear hn hf
  go_enter Try.func14, Try.ntmps14
  go_wp2_with fail
  go_loopw [3, 4] (fun p i wr => ∃ k : Nat, k ≤ n ∧ i = .int .i64 (k : Nat) ∧ wr.ownsRow w.heap.size 5 1 p k (rowG (fun j => sgn (f j)) k) ∧ Below w.heap.size w wr) (fun _ i _ => n - (intOf i).toNat)
  case atStart => exact ⟨0, Nat.zero_le _, rfl, World.ownsRow_nil _ _ _ _, Below.refl _ _⟩
  case round =>
    obtain ⟨k, hk, rfl, hown, hnx⟩ := hrel
    by_cases hlt : k < n
    · have hlz2 : (k : Int) < (n : Int) := by omega
      obtain ⟨a', cap', hva, hrow⟩ := HR.out.below hnx
      injection hva with e1 e2 e3
      subst e1 e3
      obtain ⟨b, off, rfl, hcap, hc⟩ := hrow (by omega)
      have g0 := hc k hlt
      have g1 := Hf.out k
      have Hr : Hid (rowG (fun j => sgn (f j)) (k + 1) = rowG (fun j => sgn (f j)) k ++ [.int .u8 (sgn (f k) : Nat)]) := rowG_succ _ _
      have hix : (0 : Int) ≤ ((f k : Nat) : Int) % 21 ∧ ((f k : Nat) : Int) % 21 < 21 := by omega
      have hsg : ∀ h, (({ data := #[40, 40, 40, 41, 41, 41, 34, 92, 39, 96, 44, 44, 64, 97, 43, 49, 59, 32, 10, 127, 1] } : ByteArray)[f k % 21]'h).toNat = sgn (f k) := fun h => sg_get _ h
      have hkb : k ≤ 200 := by have := Hn.out; omega
      have Hc3 := hidden (c3_of (show k ≤ 5000 by omega))
      have hsz := hnx.size
      have Hnx := hidden hnx
      clear hc hrow e2 hnx
      generalize sgn (f k) = y at *
      generalize f k = c at *
      go_wp2_with (at_builtin; refine wpList_append_own _ rfl _ _ 22 rfl w.heap.size 5 i0 (.int .u8 0) 1 1 Try.underlying22 hi hz0 hz1 hz2 rfl (by decide) _ _ _ rfl (hown.alloc _) ⟨wr.heap.size, 0, none⟩ 1 1 [.int .u8 (y : Nat)] rfl rfl (cell1 _ _ _) (one1 _) Hc3.out.1 Hc3.out.2 (c5_of hsz) ?_)
      intro v' w2 hown' hgrow _
      have Hb2 := hidden (below_append1 hsz hown Hnx.out hgrow)
      have Hw2 := hidden hown'
      clear hown' hgrow hown g0 g1 hix hsg
      go_wp2
      go_roundw
      case rel => exact ⟨k + 1, by omega, by go_num, by rw [Hr.out]; exact Hw2.out, Hb2.out⟩
      case measure => simp [intOf]; omega
    · obtain rfl : k = n := by omega
      have hlz2 : ¬ ((k : Int) < (k : Int)) := by omega
      have Hown := hidden hown
      have Hnx := hidden hnx
      clear hown hnx
      go_wp2_with fail
      go_ret
      exact ⟨_, rfl, Hown.out, Hnx.out⟩
end Go.Proofs.Ytpcfbdnckmfelaa
