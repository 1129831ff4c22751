/-
  Windows as data.
-/
import Derived.Test.YtobbnbelacncjaaQOpen
namespace Go.Proofs.Ytobbnbelacncjaa
open Go.RowKit
namespace Q
set_option linter.unusedVariables false
abbrev Wn.v (x : Wn) : Value := .agg #[.int .i64 x.kind, .int .i64 x.a, .int .i64 x.b, .int .i64 x.fr, .int .i64 x.un, .int .i64 x.rate]
/-- The zero window. -/
def zw : Wn := ⟨0, 0, 0, 0, 0, 0⟩
def suits (x : Wn) : Bool := decide ((x.kind = 1 ∧ 0 ≤ x.b ∧ x.b < 9 ∧ 1 ≤ x.rate ∧ x.rate ≤ 1000) ∨ (x.kind = 2 ∧ x.a < x.b ∧ x.b < 12 ∧ 1 ≤ x.rate ∧ x.rate ≤ 1000) ∨ (x.kind = 3 ∧ x.b = 0 ∧ x.rate = 0) ∨ (x.kind = 4 ∧ 0 ≤ x.b ∧ x.b < 32 ∧ x.rate = 0))
/-- Is it well-formed? -/
def fm (x : Wn) : Bool := decide ((0 ≤ x.fr ∧ x.fr < x.un ∧ x.un ≤ 1000000 ∧ 0 ≤ x.a ∧ x.a < 12) ∧ suits x = true)
/-- Has it the key? -/
def hk (x : Wn) (k a b : Int) : Bool := decide (x.kind = k ∧ x.a = a ∧ x.b = b)
/-- Is it open? -/
def op (x : Wn) (t : Int) : Bool := decide (x.fr ≤ t ∧ t < x.un)
/-- May it stand before? -/
def bef (v w : Wn) : Bool := decide (v.fr < w.fr ∨ (v.fr = w.fr ∧ (v.kind < w.kind ∨ (v.kind = w.kind ∧ (v.a < w.a ∨ (v.a = w.a ∧ v.b < w.b))))))
/-- Two windows of a key that are open at the same tick. -/
def meet (v w : Wn) : Bool := decide ((v.kind = w.kind ∧ v.a = w.a ∧ v.b = w.b) ∧ v.fr < w.un ∧ w.fr < v.un)
/-- Is it a link? -/
def lk (x : Wn) : Bool := decide (x.kind = 1 ∨ x.kind = 2)
/-- The far end of a link. -/
def far (x : Wn) : Int := if x.kind = 1 then 12 + x.b else x.b
/-- How long a hop takes. -/
def dur (x : Wn) (size : Int) : Int := (size - 1) / x.rate + 1
/-- When a hop ends that may begin at t; 1000001: never. -/
def hend (x : Wn) (t size : Int) : Int := if x.un < (if t < x.fr then x.fr else t) + dur x size then 1000001 else (if t < x.fr then x.fr else t) + dur x size
end Q
end Go.Proofs.Ytobbnbelacncjaa
