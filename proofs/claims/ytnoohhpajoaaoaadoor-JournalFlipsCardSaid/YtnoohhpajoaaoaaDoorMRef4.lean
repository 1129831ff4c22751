/-
  Contract of the specification of layer 6: Scrub.
-/
import Derived.Test.YtnoohhpajoaaoaaDoorMRef3
import Derived.Laws.Rows
import Derived.Laws.Tables
namespace Go.Proofs.YtnoohhpajoaaoaaDoor
open Go.RowKit
namespace M
open H
set_option linter.unusedVariables false
set_option maxRecDepth 100000
/-- One result: a struct that lies in a block of its own. -/
theorem results_row1 {P : Program} {fn : Func} {p : Tmp} {ty : TypeId} (h : fn.results = #[.cell p ty]) (tmps : Array Value) (w : World) (g : Nat) (t : TypeId) (cs : Array Value) (fr : Nat × Nat) (d : TypeDesc)
    (hp : tmps.getD p undef = .pointer (some ⟨g, 0, none⟩)) (hg : w.heap[g]? = some (.cells cs t fr))
    (hu : P.underlying ty = some d) (hd : (match d with | .struct _ | .array _ _ => true | _ => false) = true) (hi : (P.info? ty).map (·.size) = some cs.size) :
    (results fn tmps).run P w = .ok (.agg cs) w := by
  have hp' : tmps[p]?.getD undef = .pointer (some ⟨g, 0, none⟩) := by simpa using hp
  simp [results, h, hp', asAddr, run_loadVar_row w g t ty cs fr d hg hu hd hi]
theorem turns_more {m : Mem} {n : Int} {k : Nat} (h : k < m.turns n) : m.off = false ∧ (k : Int) < n ∧ k < m.code.length := by
  unfold Mem.turns at h
  cases ho : m.off with
  | true => rw [ho] at h; simp at h
  | false =>
    rw [ho] at h
    simp at h
    exact ⟨rfl, by omega, by omega⟩
theorem turns_end {m : Mem} {n : Int} {k : Nat} (h : k = m.turns n) : m.off = true ∨ n ≤ (k : Int) ∨ m.code.length ≤ k := by
  unfold Mem.turns at h
  cases ho : m.off with
  | true => exact .inl rfl
  | false =>
    rw [ho] at h
    simp at h
    omega
theorem visit_one {m : Mem} (h : (E.dec (m.at m.next)).2 = 1) : m.visit = { m with code := m.code.set m.next (E.enc (E.dec (m.at m.next)).1), next := (m.next + 1) % m.code.length } := by unfold Mem.visit; rw [if_pos h]
theorem visit_other {m : Mem} (h : (E.dec (m.at m.next)).2 ≠ 1) : m.visit = { m with next := (m.next + 1) % m.code.length } := by unfold Mem.visit; rw [if_neg h]
/-- The next position, as it is reckoned. -/
theorem next_mod {x n : Nat} (hn : 0 < n) (hm : n ≤ 4096) (hx : x < n) : ((x : Int) + 1).tmod (n : Int) = (((x + 1) % n : Nat) : Int) := by
  rw [Int.tmod_eq_emod_of_nonneg (by omega)]; push_cast; rfl
/-- What Scrub leaves: the counts, and the memory behind the visits. -/
def ScrubPost (R : World → Nat → Value → Mem → Prop) (m : Mem) (n : Int) (b : Nat) (v : Value) (w : World) (r : Ending) (w' : World) : Prop :=
  r = .returned (.agg #[.int .i64 (m.turns n : Nat), .int .i64 (m.found 1 (m.turns n) : Nat), .int .i64 (m.found 2 (m.turns n) : Nat)]) ∧ R w' b v (m.scrub n) ∧ Save (FT b v) w w'
end M
end Go.Proofs.YtnoohhpajoaaoaaDoor
