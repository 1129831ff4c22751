/-
  Hops: their ends.
-/
import Derived.Test.YtobbnbelacncjaaQV2
namespace Go.Proofs.Ytobbnbelacncjaa
open Go.RowKit
namespace Q
open H
set_option linter.unusedVariables false
set_option linter.unusedSimpArgs false
set_option maxRecDepth 100000
theorem bt {A B C : World} (h : Below A.heap.size A B) (k : Below B.heap.size B C) : Below A.heap.size A C := h.trans (k.mono h.size)
/-- A hop. -/
structure Hp where
  src : Int
  dst : Int
  w : Wn
abbrev Hp.v (h : Hp) : Value := .agg #[.int .i64 h.src, .int .i64 h.dst, .int .i64 h.w.kind, .int .i64 h.w.a, .int .i64 h.w.b, .int .i64 h.w.fr, .int .i64 h.w.un, .int .i64 h.w.rate]
/-- When a window may be used at t. -/
def beg (x : Wn) (t : Int) : Int := max x.fr t
/-- A window whose hops can be computed. -/
structure Lok (x : Wn) : Prop where
  rate : 1 ≤ x.rate ∧ x.rate ≤ 1000
  fr : 0 ≤ x.fr ∧ x.fr ≤ 1000000
  un : 0 ≤ x.un ∧ x.un ≤ 1000000
  b : 0 ≤ x.b ∧ x.b < 12
  a : 0 ≤ x.a ∧ x.a < 12
theorem dur_bd {x : Wn} (h : Lok x) {size : Int} (hs : 1 ≤ size) : 1 ≤ dur x size ∧ dur x size ≤ size := by
  have := dv_bd (c := size - 1) (by omega) h.rate.1
  unfold dur
  omega
def hend' (x : Wn) (t size : Int) : Int := if x.un < beg x t + dur x size then 1000001 else beg x t + dur x size
/-- Can the window be used from a node to another one? -/
def via (x : Wn) (f t : Int) : Bool := decide (lk x = true ∧ ((x.a = f ∧ far x = t) ∨ (x.a = t ∧ far x = f)) ∧ f < 12)
end Q
end Go.Proofs.Ytobbnbelacncjaa
