/-
  What Correlate holds while it computes: the boxed interval, the boxed correlation, the result's block; behind each step.
-/
import Derived.Test.YtlmbpbhdbgadjaaKPg1
namespace Go.Proofs.Ytlmbpbhdbgadjaa
open Go.RowKit
namespace K
open H
set_option linter.unusedVariables false
set_option maxRecDepth 100000
abbrev zz : Obj := .cells #[.int .i64 0, .int .i64 0] 25
structure Bun (w : World) (lo hi s r q : Int) (W : World) : Prop where
  c0 : W.cell? ⟨w.heap.size, 0, none⟩ = some (.int .i64 lo)
  c1 : W.cell? ⟨w.heap.size, 1, none⟩ = some (.int .i64 hi)
  c2 : W.cell? ⟨w.heap.size + 1, 0, none⟩ = some (.int .i64 s)
  c3 : W.cell? ⟨w.heap.size + 1, 1, none⟩ = some (.int .i64 r)
  c4 : W.cell? ⟨w.heap.size + 1, 2, none⟩ = some (.int .i64 q)
  row : W.heap[w.heap.size + 1 + 1]? = some zz
  lt : w.heap.size + 1 + 1 < W.heap.size
  bel : Below w.heap.size w W
variable {w W V : World} {lo hi s r q : Int}
theorem Bun.call (h : Bun w lo hi s r q W) (hB : Below W.heap.size W V) : Bun w lo hi s r q V :=
  ⟨below_cell hB h.c0, below_cell hB h.c1, below_cell hB h.c2, below_cell hB h.c3, below_cell hB h.c4, heap_keep hB h.row, Nat.lt_of_lt_of_le h.lt hB.size, h.bel.trans (hB.mono (by have := h.lt; omega))⟩
theorem Bun.alloc (h : Bun w lo hi s r q W) (o : Obj) : Bun w lo hi s r q (W.alloc o) := h.call ((Below.refl _ _).alloc (Nat.le_refl _) _)
theorem Bun.drew (h : Bun w lo hi s r q W) : Bun w lo hi s r q W.drew := h.call (Below.refl _ _).drew
theorem Bun.set (h : Bun w lo hi s r q W) (b o : Nat) (v : Value) (hb : w.heap.size + 1 + 1 < b) : Bun w lo hi s r q (W.setCell ⟨b, o, none⟩ v) := by
  have far : ∀ (a : Addr) (u : Value), W.cell? a = some u → a.block < b → (W.setCell ⟨b, o, none⟩ v).cell? a = some u := fun a u ha hl => by
    rw [World.cell?_setCell_far _ _ _ _ (by show b ≠ _; omega)]; exact ha
  refine ⟨far _ _ h.c0 (by dsimp only; omega), far _ _ h.c1 (by dsimp only; omega), far _ _ h.c2 (by dsimp only; omega), far _ _ h.c3 (by dsimp only; omega), far _ _ h.c4 (by dsimp only; omega), ?_, by simpa using h.lt, h.bel.setCell (by show w.heap.size ≤ b; omega) _⟩
  have hB : Below b W (W.setCell ⟨b, o, none⟩ v) := (Below.refl _ _).setCell (by show b ≤ b; omega) _
  exact (hB.block _ hb).trans h.row
theorem Bun.pack (h : Bun w lo hi s r q W) : W.cell? ⟨w.heap.size + 1, 0, none⟩ = some (.int .i64 s) ∧ W.cell? ⟨w.heap.size + 1, 1, none⟩ = some (.int .i64 r) ∧ W.cell? ⟨w.heap.size + 1, 2, none⟩ = some (.int .i64 q) := ⟨h.c2, h.c3, h.c4⟩
theorem Bun.start (w : World) (lo hi s r q : Int) (A B : TypeId) : Bun w lo hi s r q (((w.alloc (.cells #[.int .i64 lo, .int .i64 hi] A)).alloc (.cells #[.int .i64 s, .int .i64 r, .int .i64 q] B)).alloc zz) :=
  ⟨cell_under _ (cell_under _ ((cell_at rfl).trans rfl)), cell_under _ (cell_under _ ((cell_at rfl).trans rfl)), cell_under _ ((cell_at (by simp)).trans rfl), cell_under _ ((cell_at (by simp)).trans rfl), cell_under _ ((cell_at (by simp)).trans rfl),
    (by have h := heap_top ((w.alloc (.cells #[.int .i64 lo, .int .i64 hi] A)).alloc (.cells #[.int .i64 s, .int .i64 r, .int .i64 q] B)) zz
        simpa using h), by simp, (((Below.refl _ w).alloc (Nat.le_refl _) _).alloc (by simp) _).alloc (by simp; omega) _⟩
/-- The two cells of a row that was stored. -/
theorem set2_cells {W : World} {b : Nat} {x y u v : Value} (h0 : W.cell? ⟨b, 0, none⟩ = some x) (h1 : W.cell? ⟨b, 1, none⟩ = some y) : ((W.setCell ⟨b, 0, none⟩ u).setCell ⟨b, 1, none⟩ v).cell? ⟨b, 0, none⟩ = some u ∧ ((W.setCell ⟨b, 0, none⟩ u).setCell ⟨b, 1, none⟩ v).cell? ⟨b, 1, none⟩ = some v := by
  have n : (⟨b, 1, none⟩ : Addr) ≠ ⟨b, 0, none⟩ := by intro h; cases h
  have m : (⟨b, 0, none⟩ : Addr) ≠ ⟨b, 1, none⟩ := by intro h; cases h
  refine ⟨?_, ?_⟩
  · rw [World.cell?_setCell_other _ _ _ _ n]; exact World.cell?_setCell_same _ _ _ h0
  · exact World.cell?_setCell_same _ _ _ ((World.cell?_setCell_other _ _ _ _ m).trans h1)
end K
end Go.Proofs.Ytlmbpbhdbgadjaa
