/-
  Windows: the functions of windows that call others; the closures of the queries.
-/
import Derived.Test.YtobbnbelacncjaaQV1
namespace Go.Proofs.Ytobbnbelacncjaa
open Go.RowKit
namespace Q
open H
set_option linter.unusedVariables false
set_option linter.unusedSimpArgs false
set_option maxRecDepth 100000
/-- A window's box. -/
structure Bx (W : World) (b : Nat) (x : Wn) : Prop where
  c0 : W.cell? ⟨b, 0, none⟩ = some (.int .i64 x.kind)
  c1 : W.cell? ⟨b, 1, none⟩ = some (.int .i64 x.a)
  c2 : W.cell? ⟨b, 2, none⟩ = some (.int .i64 x.b)
  c3 : W.cell? ⟨b, 3, none⟩ = some (.int .i64 x.fr)
  c4 : W.cell? ⟨b, 4, none⟩ = some (.int .i64 x.un)
  c5 : W.cell? ⟨b, 5, none⟩ = some (.int .i64 x.rate)
theorem Bx.call {W V : World} {b : Nat} {x : Wn} (h : Bx W b x) (hB : Below W.heap.size W V) : Bx V b x := ⟨below_cell hB h.c0, below_cell hB h.c1, below_cell hB h.c2, below_cell hB h.c3, below_cell hB h.c4, below_cell hB h.c5⟩
theorem Bx.alloc {W : World} {b : Nat} {x : Wn} (h : Bx W b x) (o : Obj) : Bx (W.alloc o) b x := h.call (bel1 W o)
theorem Bx.new (w : World) (x : Wn) (T : TypeId) : Bx (w.alloc (.cells #[.int .i64 x.kind, .int .i64 x.a, .int .i64 x.b, .int .i64 x.fr, .int .i64 x.un, .int .i64 x.rate] T)) w.heap.size x := ⟨cell_top _ _ _ _, cell_top _ _ _ _, cell_top _ _ _ _, cell_top _ _ _ _, cell_top _ _ _ _, cell_top _ _ _ _⟩

end Q
end Go.Proofs.Ytobbnbelacncjaa
