/- Texts of items: how long, what of; strings of lists. -/
import Derived.Test.YtaefnlknendapaaLwA
import Derived.Test.YtaefnlknendapaaPtA
namespace Go.Proofs.PlatenLayout
open Go Go.RowKit Go.Shelf
set_option linter.unusedVariables false
set_option maxRecDepth 100000

theorem str_app' (a b : List Nat) : str a ++ str b = str (a ++ b) := by
  unfold str
  apply ByteArray.ext
  simp
theorem str_ext (q : List Nat) (j k : Nat) (h1 : j ≤ k) (h2 : k ≤ q.length) : (str q).extract j k = str ((q.take k).drop j) := by
  unfold str
  apply ByteArray.ext
  simp [List.map_take, List.map_drop]
  rw [List.drop_take]
theorem str_at (q : List Nat) (j : Nat) (h : j < q.length) (hq : ∀ c ∈ q, c < 256) : ((str q).data[j]?).map (fun b => b.toNat) = some q[j] := by
  have := hq _ (List.getElem_mem h)
  simp [str, h]
  omega
theorem item_tx (p : Pt) : (itemOf p).tx.length ≤ 10 ∧ plain (itemOf p).tx = (itemOf p).tx ∧ (∀ c ∈ (itemOf p).tx, c < 256) := by
  have h9 := Nat.mod_lt p.u (show 0 < 9 by decide)
  obtain ⟨c1, c2, c3⟩ := ptx_cnt (p.u % 9) h9 (decide (p.like % 8 = 7))
  simp only [itemOf]
  split
  · refine ⟨c2, ?_, fun c hc => (c3 c hc).1⟩
    unfold plain
    rw [List.filter_eq_self]
    intro c hc
    obtain ⟨_, h1, h2⟩ := c3 c hc
    simp [h1, h2]
  · exact ⟨by simp, rfl, fun c hc => by simp at hc⟩
theorem texts_app (a b : List It) : texts (a ++ b) = texts a ++ texts b := by
  induction a with
  | nil => rfl
  | cons x r ih => show _ ++ texts (r ++ b) = (_ ++ texts r) ++ texts b; rw [ih, List.append_assoc]
theorem texts_succ {l : List It} {k : Nat} (h : k < l.length) : texts (l.take (k + 1)) = texts (l.take k) ++ (if l[k].kind = 1 then l[k].tx else []) := by
  rw [List.take_add_one, List.getElem?_eq_getElem h, texts_app]
  show _ ++ (_ ++ []) = _
  rw [List.append_nil]
theorem texts_len (l : List Pt) (k : Nat) : (texts ((l.map itemOf).take k)).length ≤ 10 * l.length := by
  have gen : ∀ m : List Pt, (texts (m.map itemOf)).length ≤ 10 * m.length := by
    intro m
    induction m with
    | nil => exact Nat.le_refl _
    | cons p m ih =>
      have := (item_tx p).1
      show ((if (itemOf p).kind = 1 then (itemOf p).tx else []) ++ texts (m.map itemOf)).length ≤ _
      rw [List.length_append, List.length_cons]
      split
      · omega
      · simp; omega
  rw [← List.map_take]
  have h1 := gen (l.take k)
  have h2 : (l.take k).length ≤ l.length := by rw [List.length_take]; omega
  omega
theorem plain_succ {q : List Nat} {j : Nat} (h : j < q.length) : plain (q.take (j + 1)) = plain (q.take j) ++ (if q[j] ≠ 32 ∧ q[j] ≠ 10 then [q[j]] else []) := by
  rw [List.take_add_one, List.getElem?_eq_getElem h, plain_app]
  congr 1
  unfold plain
  by_cases a : q[j] = 32 <;> by_cases b : q[j] = 10 <;> simp [a, b]
theorem plain_len (q : List Nat) : (plain q).length ≤ q.length := by unfold plain; exact List.length_filter_le _ _
theorem texts_plain {wd : Int} {l : List Pt} {q : List Nat} (e : lay wd (l.map itemOf) s0 = some q) : plain q = texts (l.map itemOf) := by
  have h := lay_texts wd (l.map itemOf) s0 q (fun x hx _ => by
    obtain ⟨p, _, rfl⟩ := List.mem_map.1 hx
    exact (item_tx p).2.1) e
  rw [h]
  rfl
end Go.Proofs.PlatenLayout
