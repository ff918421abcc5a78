/- Texts that are made of JSON's own bytes. -/
import Derived.Test.YtapghnmeiahgoaaArgs
namespace Go.Proofs.Ytapghnmeiahgoaa
open Go.ChangeShapes Go.WideShapes Go.ChangeAt Go.RowKit Go.Proofs.PlatenJson
set_option linter.unusedVariables false
set_option maxRecDepth 100000

def SG : List Nat := [123, 125, 91, 93, 44, 58, 34, 34, 92, 117, 101, 45, 43, 46, 48, 49, 50, 51, 52, 53, 54, 55, 56, 57, 116, 114, 117, 101, 102, 97, 108, 115, 110, 32, 9, 10]
def sgn (c : Nat) : Nat := SG.getD (c % 36) 0
abbrev SGs : ByteArray := ⟨#[123, 125, 91, 93, 44, 58, 34, 34, 92, 117, 101, 45, 43, 46, 48, 49, 50, 51, 52, 53, 54, 55, 56, 57, 116, 114, 117, 101, 102, 97, 108, 115, 110, 32, 9, 10]⟩
theorem sgn_lt (c : Nat) : sgn c < 256 := by
  have : ∀ k, k < 36 → SG.getD k 0 < 256 := by decide
  exact this _ (Nat.mod_lt _ (by decide))
/-- n bytes as cells. -/
def rowG (g : Nat → Nat) (n : Nat) : List Value := (List.range n).map fun j => Value.int .u8 (g j : Nat)
theorem rowG_succ (g : Nat → Nat) (n : Nat) : rowG g (n + 1) = rowG g n ++ [.int .u8 (g n : Nat)] := by simp [rowG, List.range_succ]
theorem row_of {w : World} {B : Nat} {v : Value} {n : Nat} {g : Nat → Nat} (h : w.ownsRow B 5 1 v n (rowG g n)) : Row w v n g := by
  have hcl := fun b => h.cells (g := b)
  rcases h.2 with ⟨rfl, h0⟩ | ⟨b, cap, cur, rfl, hbg, hg, hnc, hcm, hcs, htake⟩
  · exact ⟨none, 0, by rw [h0], fun hl => by omega⟩
  · refine ⟨_, cap, rfl, fun _ => ⟨b, 0, rfl, hnc, fun j hj => ?_⟩⟩
    have := hcl b rfl j (.int .u8 (g j : Nat)) (by simp [rowG, hj])
    have ea : ∀ j, (⟨b, 0, none⟩ : Addr).add j = ⟨b, j, none⟩ := fun j => by unfold Addr.add; split <;> simp_all
    rw [ea] at this
    rw [Nat.zero_add]; exact this
theorem below_append1 {B s : Nat} {e : TypeId} {w wr w1 : World} {v : Value} {n : Nat} {xs : List Value} {o : Obj} (hB : B ≤ wr.heap.size) (hown : wr.ownsRow B e s v n xs) (hnx : Below B w wr) (hg : (wr.alloc o).grownBy w1 v.ownBlock) : Below B w w1 :=
  (hnx.alloc hB o).grown hg (by simp; omega) (fun j hj => (hown.lt j hj).1)
theorem cell1 (X : World) (t : TypeId) (a : Value) : ∀ j u, [a][j]? = some u → (X.alloc (.cells #[a] t)).cell? ((⟨X.heap.size, 0, none⟩ : Addr).add j) = some u := by
  intro j u hj
  match j, hj with
  | 0, hj =>
    simp at hj
    subst hj
    exact cell_new X t a
  | j + 1, hj => simp at hj
theorem one1 (c : Int) : ∀ u ∈ [Value.int .u8 c], u.oneCell' = true := by
  intro u hu
  simp at hu
  rcases hu with rfl
  rfl
theorem c3_of {k : Nat} (h : k ≤ 5000) : k + 1 ≤ maxLen ∧ (k + 1) * 1 ≤ 140737488355328 := by unfold maxLen; omega
theorem c5_of {B : Nat} {w : World} {o : Obj} (h : B ≤ w.heap.size) : B ≤ (w.alloc o).heap.size := by simp; omega
theorem sg_fin : ∀ k : Fin 36, (SGs[k.val]'(show k.val < SGs.size from k.isLt)).toNat = SG.getD k.val 0 := by decide +kernel
theorem sg_get (c : Nat) (h : c % 36 < SGs.size) : (SGs[c % 36]'h).toNat = sgn c := sg_fin ⟨c % 36, Nat.mod_lt _ (by decide)⟩
end Go.Proofs.Ytapghnmeiahgoaa
