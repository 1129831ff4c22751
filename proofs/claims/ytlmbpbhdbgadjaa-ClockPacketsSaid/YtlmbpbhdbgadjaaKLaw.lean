/-
  What the laws of clock hold while they compute: the box of a case, boxes of two or three numbers.
-/
import Derived.Test.YtlmbpbhdbgadjaaKLives
import Derived.Test.YtlmbpbhdbgadjaaKCs
namespace Go.Proofs.Ytlmbpbhdbgadjaa
open Go.RowKit
namespace K
open H
set_option linter.unusedVariables false
/-- The box of a case at the block that w makes first. -/
structure CB (w : World) (x : Cs) (W : World) : Prop where
  c0 : W.cell? ⟨w.heap.size, 0, none⟩ = some (.int .i64 x.lo)
  c1 : W.cell? ⟨w.heap.size, 1, none⟩ = some (.int .i64 x.wide)
  c2 : W.cell? ⟨w.heap.size, 2, none⟩ = some (.int .i64 x.sent)
  c3 : W.cell? ⟨w.heap.size, 3, none⟩ = some (.int .i64 x.took)
  c4 : W.cell? ⟨w.heap.size, 4, none⟩ = some (.int .i64 x.since)
  c5 : W.cell? ⟨w.heap.size, 5, none⟩ = some (.int .i64 x.tick)
  c6 : W.cell? ⟨w.heap.size, 6, none⟩ = some (.int .i64 x.drift)
  lt : w.heap.size < W.heap.size
  bel : Below w.heap.size w W
theorem CB.call {w W V : World} {x : Cs} (h : CB w x W) (hB : Below W.heap.size W V) : CB w x V :=
  ⟨below_cell hB h.c0, below_cell hB h.c1, below_cell hB h.c2, below_cell hB h.c3, below_cell hB h.c4, below_cell hB h.c5, below_cell hB h.c6, Nat.lt_of_lt_of_le h.lt hB.size, h.bel.trans (hB.mono (Nat.le_of_lt h.lt))⟩
theorem CB.alloc {w W : World} {x : Cs} (h : CB w x W) (o : Obj) : CB w x (W.alloc o) := h.call ((Below.refl _ _).alloc (Nat.le_refl _) _)
theorem CB.drew {w W : World} {x : Cs} (h : CB w x W) : CB w x W.drew := h.call (Below.refl _ _).drew
theorem CB.start (w : World) (x : Cs) (T : TypeId) : CB w x (w.alloc (.cells #[.int .i64 x.lo, .int .i64 x.wide, .int .i64 x.sent, .int .i64 x.took, .int .i64 x.since, .int .i64 x.tick, .int .i64 x.drift] T)) :=
  ⟨cell_top _ _ _ _, cell_top _ _ _ _, cell_top _ _ _ _, cell_top _ _ _ _, cell_top _ _ _ _, cell_top _ _ _ _, cell_top _ _ _ _, by simp, (Below.refl _ _).alloc (Nat.le_refl _) _⟩
/-- What lay below is kept. -/
structure Bl (w W : World) : Prop where
  out : Below w.heap.size w W
theorem Bl.call {w W V : World} (h : Bl w W) (hB : Below W.heap.size W V) : Bl w V := ⟨h.out.trans (hB.mono h.out.size)⟩
theorem Bl.drew {w W : World} (h : Bl w W) : Bl w W.drew := ⟨h.out.drew⟩
theorem Bl.alloc {w W : World} (h : Bl w W) (o : Obj) : Bl w (W.alloc o) := ⟨h.out.alloc h.out.size _⟩
theorem below1 (w : World) (o : Obj) : Bl w (w.alloc o) := ⟨(Below.refl _ _).alloc (Nat.le_refl _) _⟩
theorem Bl.refl (w : World) : Bl w w := ⟨Below.refl _ _⟩
/-- A box of two numbers; of three. -/
structure IB (b : Nat) (lo hi : Int) (W : World) : Prop where
  c0 : W.cell? ⟨b, 0, none⟩ = some (.int .i64 lo)
  c1 : W.cell? ⟨b, 1, none⟩ = some (.int .i64 hi)
theorem IB.call {b : Nat} {lo hi : Int} {W V : World} (h : IB b lo hi W) (hB : Below W.heap.size W V) : IB b lo hi V := ⟨below_cell hB h.c0, below_cell hB h.c1⟩
theorem IB.alloc {b : Nat} {lo hi : Int} {W : World} (h : IB b lo hi W) (o : Obj) : IB b lo hi (W.alloc o) := h.call ((Below.refl _ _).alloc (Nat.le_refl _) _)
theorem IB.drew {b : Nat} {lo hi : Int} {W : World} (h : IB b lo hi W) : IB b lo hi W.drew := h.call (Below.refl _ _).drew
theorem IB.new (W : World) (lo hi : Int) (T : TypeId) : IB W.heap.size lo hi (W.alloc (.cells #[.int .i64 lo, .int .i64 hi] T)) := ⟨cell_top _ _ _ _, cell_top _ _ _ _⟩
structure SB (b : Nat) (s r q : Int) (W : World) : Prop where
  c0 : W.cell? ⟨b, 0, none⟩ = some (.int .i64 s)
  c1 : W.cell? ⟨b, 1, none⟩ = some (.int .i64 r)
  c2 : W.cell? ⟨b, 2, none⟩ = some (.int .i64 q)
theorem SB.call {b : Nat} {s r q : Int} {W V : World} (h : SB b s r q W) (hB : Below W.heap.size W V) : SB b s r q V := ⟨below_cell hB h.c0, below_cell hB h.c1, below_cell hB h.c2⟩
theorem SB.alloc {b : Nat} {s r q : Int} {W : World} (h : SB b s r q W) (o : Obj) : SB b s r q (W.alloc o) := h.call ((Below.refl _ _).alloc (Nat.le_refl _) _)
theorem SB.drew {b : Nat} {s r q : Int} {W : World} (h : SB b s r q W) : SB b s r q W.drew := h.call (Below.refl _ _).drew
theorem SB.new (W : World) (s r q : Int) (T : TypeId) : SB W.heap.size s r q (W.alloc (.cells #[.int .i64 s, .int .i64 r, .int .i64 q] T)) := ⟨cell_top _ _ _ _, cell_top _ _ _ _, cell_top _ _ _ _⟩
end K
end Go.Proofs.Ytlmbpbhdbgadjaa
