/-
  The plain mathematics of package unit: dimensions, quantities, their operations; nothing here speaks of the program.
-/
import Derived.WalkKit
namespace Go.Proofs.YthcehhonahgfmaaDoor
namespace U

structure Dm where
  e : Int
  d : Int
  t : Int
  a : Int
  h : Int
deriving DecidableEq
structure Qt where
  n : Int
  m : Dm
deriving DecidableEq
def Dm.zero : Dm := ⟨0, 0, 0, 0, 0⟩
def Qt.zero : Qt := ⟨0, .zero⟩
def Dm.raised (x : Dm) (k : Int) : Dm := ⟨k * x.e, k * x.d, k * x.t, k * x.a, k * x.h⟩
def Dm.times (x y : Dm) : Dm := ⟨x.e + y.e, x.d + y.d, x.t + y.t, x.a + y.a, x.h + y.h⟩
def Dm.over (x y : Dm) : Dm := ⟨x.e - y.e, x.d - y.d, x.t - y.t, x.a - y.a, x.h - y.h⟩
def Dm.list (x : Dm) : List Int := [x.e, x.d, x.t, x.a, x.h]
/-- All exponents are from -k to k. -/
def Dm.in (x : Dm) (k : Int) : Prop := (-k ≤ x.e ∧ x.e ≤ k) ∧ (-k ≤ x.d ∧ x.d ≤ k) ∧ (-k ≤ x.t ∧ x.t ≤ k) ∧ (-k ≤ x.a ∧ x.a ≤ k) ∧ (-k ≤ x.h ∧ x.h ≤ k)
instance (x : Dm) (k : Int) : Decidable (x.in k) := by unfold Dm.in; infer_instance
def Qt.valid (q : Qt) : Prop := (-2147483647 ≤ q.n ∧ q.n ≤ 2147483647) ∧ q.m.in 8
instance (q : Qt) : Decidable q.valid := by unfold Qt.valid; infer_instance
/-- A quantity, if it is valid, and the error. -/
def chk (q : Qt) : Qt × Int := if q.valid then (q, 0) else (.zero, 5)
def addQ (x y : Qt) : Qt × Int := if x.m = y.m then chk ⟨x.n + y.n, x.m⟩ else (.zero, 10)
def subQ (x y : Qt) : Qt × Int := if x.m = y.m then chk ⟨x.n - y.n, x.m⟩ else (.zero, 10)
def mulQ (x y : Qt) : Qt × Int := chk ⟨x.n * y.n, x.m.times y.m⟩
def divQ (x y : Qt) : Qt × Int := if y.n = 0 then (.zero, 1) else chk ⟨x.n.fdiv y.n, x.m.over y.m⟩
def cmpQ (x y : Qt) : Int × Int := if x.m = y.m then (if x.n < y.n then -1 else if y.n < x.n then 1 else 0, 0) else (0, 10)
end U
end Go.Proofs.YthcehhonahgfmaaDoor
