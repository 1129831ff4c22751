/-
  The landed overlapping and Check.
-/
import Derived.Test.YtobbnbelacncjaaQAt
namespace Go.Proofs.Ytobbnbelacncjaa
open Go.RowKit Go.Shelf
namespace Q
open H
set_option linter.unusedVariables false
set_option linter.unusedSimpArgs false
set_option maxRecDepth 100000
theorem rds_take {w : World} {B : Nat} {A : Option Addr} {xs : List Wn} (h : RdsWn w B A xs) (k : Nat) : RdsWn w B A (xs.take k) := fun j x hx => by
  rw [List.getElem?_take] at hx
  split at hx
  · exact h j x hx
  · cases hx
theorem row6 {W : World} {b : Nat} {v0 v1 v2 v3 v4 v5 : Value} {t : TypeId} (h : W.heap[b]? = some (Obj.cells #[v0, v1, v2, v3, v4, v5] t)) : (W.cell? ⟨b, 0, none⟩ = some v0 ∧ W.cell? ⟨b, 1, none⟩ = some v1 ∧ W.cell? ⟨b, 2, none⟩ = some v2 ∧ W.cell? ⟨b, 3, none⟩ = some v3 ∧ W.cell? ⟨b, 4, none⟩ = some v4 ∧ W.cell? ⟨b, 5, none⟩ = some v5) ∧ (W.frozen? ⟨b, 0, none⟩ = false ∧ W.frozen? ⟨b, 1, none⟩ = false ∧ W.frozen? ⟨b, 2, none⟩ = false ∧ W.frozen? ⟨b, 3, none⟩ = false ∧ W.frozen? ⟨b, 4, none⟩ = false ∧ W.frozen? ⟨b, 5, none⟩ = false) := by
  simp [World.cell?, World.frozen?, h]
theorem cell_put6 {W : World} {b b' i : Nat} {v : Value} (x : Wn) (h : W.cell? ⟨b, i, none⟩ = some v) (hne : b ≠ b') : (put6 W b' x).cell? ⟨b, i, none⟩ = some v := by
  have hh : (put6 W b' x).heap[b]? = W.heap[b]? := by
    cases hb : W.heap[b]? with
    | none => simp [World.cell?, hb] at h
    | some o => exact put6_oth x hb hne
  unfold World.cell? at h ⊢
  rw [hh]
  exact h
theorem heap_top_drew (w : World) (o : Obj) : (w.alloc o).drew.heap[w.heap.size]? = some o := heap_top w o
/-- Does a window overlap an earlier one? -/
def ov (T : List Wn) (i : Nat) : Bool := match T[i]? with | some x => ((T.take i).find? (pAt x.kind x.a x.b x.fr)).isSome | none => false
def ovl (T : List Wn) : Bool := (List.range T.length).any (ov T)
theorem ovl_no {T : List Wn} (h : ∀ i, i < T.length → ov T i = false) : ovl T = false := by
  unfold ovl
  rw [List.any_eq_false]
  intro i hi
  rw [h i (List.mem_range.1 hi)]
  simp
theorem ovl_yes {T : List Wn} {i : Nat} (hi : i < T.length) (h : ov T i = true) : ovl T = true := by
  unfold ovl
  rw [List.any_eq_true]
  exact ⟨i, List.mem_range.2 hi, h⟩
end Q
end Go.Proofs.Ytobbnbelacncjaa
