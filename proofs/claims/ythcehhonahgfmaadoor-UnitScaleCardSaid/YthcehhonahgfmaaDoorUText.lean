/-
  The texts of dimensions and quantities: what Name and Print say.
-/
import Derived.Test.YthcehhonahgfmaaDoorUMath
import Derived.Lib.ItoaNum
namespace Go.Proofs.YthcehhonahgfmaaDoor
namespace U
/-- The base units. -/
def base : Nat → List UInt8
  | 0 => [74]
  | 1 => [66]
  | 2 => [115]
  | 3 => [100, 101, 103]
  | _ => [75]
def addF (s b : List UInt8) (e : Int) : List UInt8 := if e = 0 then s else (if s = [] then [] else s ++ [42]) ++ (if e = 1 then b else b ++ 94 :: Lib.itoa e)
def nmK (x : Dm) : Nat → List UInt8
  | 0 => []
  | j + 1 => addF (nmK x j) (base j) (x.list[j]?.getD 0)
def nameT (x : Dm) : List UInt8 := nmK x 5
def printT (q : Qt) : List UInt8 := if nameT q.m = [] then Lib.itoa q.n else Lib.itoa q.n ++ 32 :: nameT q.m
theorem base_len (j : Nat) : (base j).length ≤ 3 := by
  unfold base
  split <;> decide
theorem addF_len {s b : List UInt8} {e : Int} (hb : b.length ≤ 3) (he : (Lib.itoa e).length ≤ 20) : (addF s b e).length ≤ s.length + 25 := by
  unfold addF
  by_cases h0 : e = 0
  · rw [if_pos h0]; omega
  · rw [if_neg h0]
    by_cases h1 : e = 1 <;> by_cases h2 : s = []
    · rw [if_pos h1, if_pos h2]; simp; omega
    · rw [if_pos h1, if_neg h2]; simp; omega
    · rw [if_neg h1, if_pos h2]; simp; omega
    · rw [if_neg h1, if_neg h2]; simp; omega
end U
end Go.Proofs.YthcehhonahgfmaaDoor
