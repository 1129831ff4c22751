/-
  Contracts of the specification of layer 6: Read, Write, Flip, Fuse, Reset.
-/
import Derived.Test.YtnoohhpajoaaoaaDoorFoot
import Derived.Test.YtnoohhpajoaaoaaDoorMMath
import Derived.Test.YtnoohhpajoaaoaaDoorEProg2
import Derived.StillTailTactics
namespace Go.Proofs.YtnoohhpajoaaoaaDoor
open Go.RowKit
namespace M
open H
set_option linter.unusedVariables false
set_option maxRecDepth 100000
def codeC (m : Mem) : List Value := m.code.map fun (c : Nat) => Value.int .u64 (c : Int)
theorem codeC_len (m : Mem) : (codeC m).length = m.code.length := List.length_map _
theorem codeC_at (m : Mem) {k : Nat} (h : k < m.code.length) : (codeC m)[k]? = some (.int .u64 ((m.at k : Nat) : Int)) := by
  unfold codeC Mem.at
  rw [List.getElem?_map, List.getElem?_eq_getElem h]; rfl
theorem codeC_set (m : Mem) (k c : Nat) : (codeC m).set k (.int .u64 (c : Int)) = (m.code.set k c).map fun (c : Nat) => Value.int .u64 (c : Int) := by
  unfold codeC
  rw [List.map_set]
/-- The cells of a specification's memory. -/
def rcs (v : Value) (m : Mem) : Array Value := #[v, .int .i64 (m.next : Nat), .int .i64 (m.count : Nat), .int .i64 (m.left : Nat), .bool m.off]
theorem has_false {m : Mem} {a : Int} (h : m.has a = false) : a < 0 ∨ (m.code.length : Int) ≤ a := by
  have := of_decide_eq_false h
  omega
theorem bit_out {bit : Int} (h : bitIn bit = false) : bit < 0 ∨ 38 < bit := by
  have := of_decide_eq_false h
  omega
theorem flipE_no {m : Mem} {a bit : Int} (h : m.has a = false ∨ bitIn bit = false) : m.flipE a bit = 5 ∧ m.flip a bit = m := by
  have : ¬ (m.has a = true ∧ bitIn bit = true) := by rcases h with h | h <;> simp [h]
  exact ⟨by unfold Mem.flipE; rw [if_neg this], by unfold Mem.flip; rw [if_neg this]⟩
end M
end Go.Proofs.YtnoohhpajoaaoaaDoor
