/-
  A list of cells that is kept while a law computes.
-/
import Derived.Test.YtlmbpbhdbgadjaaKLaw
namespace Go.Proofs.Ytlmbpbhdbgadjaa
open Go.RowKit
namespace K
open H
set_option linter.unusedVariables false
abbrev CL := List (Nat × Nat × Int)
structure Kp (w : World) (Z : Nat) (L : CL) (W : World) : Prop where
  cells : ∀ t ∈ L, W.cell? ⟨t.1, t.2.1, none⟩ = some (.int .i64 t.2.2)
  low : ∀ t ∈ L, t.1 < Z
  le : w.heap.size ≤ Z
  lt : Z ≤ W.heap.size
  bel : Below w.heap.size w W
variable {w W V : World} {Z : Nat} {L : CL}
theorem Kp.at (h : Kp w Z L W) {b o : Nat} {n : Int} (hm : (b, o, n) ∈ L) : W.cell? ⟨b, o, none⟩ = some (.int .i64 n) := h.cells _ hm
theorem Kp.call (h : Kp w Z L W) (hB : Below W.heap.size W V) : Kp w Z L V :=
  ⟨fun t ht => below_cell hB (h.cells t ht), h.low, h.le, Nat.le_trans h.lt hB.size, h.bel.trans (hB.mono (by have := h.le; have := h.lt; omega))⟩
theorem Kp.alloc (h : Kp w Z L W) (o : Obj) : Kp w Z L (W.alloc o) := h.call ((Below.refl _ _).alloc (Nat.le_refl _) _)
theorem Kp.drew (h : Kp w Z L W) : Kp w Z L W.drew := h.call (Below.refl _ _).drew
theorem Kp.start (w : World) : Kp w w.heap.size [] w := ⟨fun t ht => by simp at ht, fun t ht => by simp at ht, Nat.le_refl _, Nat.le_refl _, Below.refl _ _⟩
theorem Kp.up (h : Kp w Z L W) : Kp w W.heap.size L W := ⟨h.cells, fun t ht => Nat.lt_of_lt_of_le (h.low t ht) h.lt, Nat.le_trans h.le h.lt, Nat.le_refl _, h.bel⟩
theorem Kp.setc (h : Kp w Z L W) {b o : Nat} {v : Value} (hb : Z ≤ b) : Kp w Z L (W.setCell ⟨b, o, none⟩ v) :=
  ⟨fun t ht => by
      have := h.low t ht
      rw [World.cell?_setCell_far _ _ _ _ (by show b ≠ t.1; omega)]
      exact h.cells t ht, h.low, h.le, by simpa using h.lt, h.bel.setCell (by show w.heap.size ≤ b; have := h.le; omega) _⟩
/-- A new box of two, of three, of seven numbers. -/
theorem Kp.new2 (h : Kp w Z L W) (a b : Int) (T : TypeId) : Kp w (W.alloc (.cells #[.int .i64 a, .int .i64 b] T)).heap.size ((W.heap.size, 0, a) :: (W.heap.size, 1, b) :: L) (W.alloc (.cells #[.int .i64 a, .int .i64 b] T)) := by
  have h2 := (h.alloc (.cells #[.int .i64 a, .int .i64 b] T)).up
  refine ⟨fun t ht => ?_, fun t ht => ?_, h2.le, Nat.le_refl _, h2.bel⟩
  · rcases List.mem_cons.1 ht with rfl | ht
    · exact cell_top _ _ _ _
    · rcases List.mem_cons.1 ht with rfl | ht
      · exact cell_top _ _ _ _
      · exact h2.cells t ht
  · rcases List.mem_cons.1 ht with rfl | ht
    · simp
    · rcases List.mem_cons.1 ht with rfl | ht
      · simp
      · exact h2.low t ht
theorem Kp.new3 (h : Kp w Z L W) (a b c : Int) (T : TypeId) : Kp w (W.alloc (.cells #[.int .i64 a, .int .i64 b, .int .i64 c] T)).heap.size ((W.heap.size, 0, a) :: (W.heap.size, 1, b) :: (W.heap.size, 2, c) :: L) (W.alloc (.cells #[.int .i64 a, .int .i64 b, .int .i64 c] T)) := by
  have h2 := (h.alloc (.cells #[.int .i64 a, .int .i64 b, .int .i64 c] T)).up
  refine ⟨fun t ht => ?_, fun t ht => ?_, h2.le, Nat.le_refl _, h2.bel⟩
  · rcases List.mem_cons.1 ht with rfl | ht
    · exact cell_top _ _ _ _
    · rcases List.mem_cons.1 ht with rfl | ht
      · exact cell_top _ _ _ _
      · rcases List.mem_cons.1 ht with rfl | ht
        · exact cell_top _ _ _ _
        · exact h2.cells t ht
  · rcases List.mem_cons.1 ht with rfl | ht
    · simp
    · rcases List.mem_cons.1 ht with rfl | ht
      · simp
      · rcases List.mem_cons.1 ht with rfl | ht
        · simp
        · exact h2.low t ht
def csL (b : Nat) (x : Cs) : CL := [(b, 0, x.lo), (b, 1, x.wide), (b, 2, x.sent), (b, 3, x.took), (b, 4, x.since), (b, 5, x.tick), (b, 6, x.drift)]
theorem Kp.newC (h : Kp w Z L W) (x : Cs) (T : TypeId) : Kp w (W.alloc (.cells #[.int .i64 x.lo, .int .i64 x.wide, .int .i64 x.sent, .int .i64 x.took, .int .i64 x.since, .int .i64 x.tick, .int .i64 x.drift] T)).heap.size (csL W.heap.size x ++ L) (W.alloc (.cells #[.int .i64 x.lo, .int .i64 x.wide, .int .i64 x.sent, .int .i64 x.took, .int .i64 x.since, .int .i64 x.tick, .int .i64 x.drift] T)) := by
  have h2 := (h.alloc (.cells #[.int .i64 x.lo, .int .i64 x.wide, .int .i64 x.sent, .int .i64 x.took, .int .i64 x.since, .int .i64 x.tick, .int .i64 x.drift] T)).up
  refine ⟨fun t ht => ?_, fun t ht => ?_, h2.le, Nat.le_refl _, h2.bel⟩
  · rcases List.mem_append.1 ht with ht | ht
    · simp only [csL, List.mem_cons, List.not_mem_nil, or_false] at ht
      rcases ht with rfl | rfl | rfl | rfl | rfl | rfl | rfl <;> exact cell_top _ _ _ _
    · exact h2.cells t ht
  · rcases List.mem_append.1 ht with ht | ht
    · simp only [csL, List.mem_cons, List.not_mem_nil, or_false] at ht
      rcases ht with rfl | rfl | rfl | rfl | rfl | rfl | rfl <;> simp
    · exact h2.low t ht
/-- The two numbers that were stored into a box that the region made earlier. -/
theorem Kp.set2 (h : Kp w Z L W) {b : Nat} (hb : Z ≤ b) (hz : W.heap[b]? = some zz) (a c : Int) : Kp w ((W.setCell ⟨b, 0, none⟩ (.int .i64 a)).setCell ⟨b, 1, none⟩ (.int .i64 c)).heap.size ((b, 0, a) :: (b, 1, c) :: L) ((W.setCell ⟨b, 0, none⟩ (.int .i64 a)).setCell ⟨b, 1, none⟩ (.int .i64 c)) := by
  have h2 := ((h.setc (o := 0) (v := .int .i64 a) hb).setc (o := 1) (v := .int .i64 c) hb).up
  obtain ⟨r0, r1, _, _⟩ := row_cells hz
  obtain ⟨s0, s1⟩ := set2_cells (u := .int .i64 a) (v := .int .i64 c) r0 r1
  have hlt := World.block_lt_of_cell? _ _ s0
  refine ⟨fun t ht => ?_, fun t ht => ?_, h2.le, Nat.le_refl _, h2.bel⟩
  · rcases List.mem_cons.1 ht with rfl | ht
    · exact s0
    · rcases List.mem_cons.1 ht with rfl | ht
      · exact s1
      · exact h2.cells t ht
  · rcases List.mem_cons.1 ht with rfl | ht
    · exact hlt
    · rcases List.mem_cons.1 ht with rfl | ht
      · exact hlt
      · exact h2.low t ht
end K
end Go.Proofs.Ytlmbpbhdbgadjaa
