/-
  CheckLeaps and the specification's Check, of a table of any length.
-/
import Derived.Test.YtlmbpbhdbgadjaaKKp
namespace Go.Proofs.Ytlmbpbhdbgadjaa
open Go.RowKit
namespace K
open H
set_option linter.unusedVariables false
set_option maxRecDepth 100000
set_option maxHeartbeats 1000000 in
theorem check_all (t : List Lp) (A : Option Addr) (cap B : Nat) (w : World) (hB : B ≤ w.heap.size) (ht : RdsLp w B A t) (hl : t.length ≤ maxLen) :
    Calls Try.prog 35 #[.slice A t.length cap] w fun e w' => e = .returned (.int .i64 (chk t)) ∧ Below w.heap.size w w' := by
  by_cases h32 : 32 < t.length
  · have he : chk t = 2 := by unfold chk; rw [if_pos h32]
    rw [he]
    clear he ht
    unfold maxLen at hl
    generalize t.length = l at *
    have hz : (32 : Int) < (l : Int) := by omega
    go_enter Try.func35, Try.ntmps35
    go_wp2_with fail
    go_ret
    exact ⟨rfl, Below.refl _ _⟩
  · exact check_any t A cap B w hB ht (by omega)
set_option maxHeartbeats 1000000 in
theorem rcheck_all (t : List Lp) (A : Option Addr) (cap B : Nat) (w : World) (hB : B ≤ w.heap.size) (ht : RdsLp w B A t) (hl : t.length ≤ maxLen) :
    Calls Try.prog 36 #[.slice A t.length cap] w fun e w' => e = .returned (.int .i64 (chk t)) ∧ Below w.heap.size w w' := by
  by_cases h32 : 32 < t.length
  · have he : chk t = 2 := by unfold chk; rw [if_pos h32]
    rw [he]
    clear he ht
    unfold maxLen at hl
    generalize t.length = l at *
    have hz : (32 : Int) < (l : Int) := by omega
    go_enter Try.func36, Try.ntmps36
    go_wp2_with fail
    go_ret
    exact ⟨rfl, Below.refl _ _⟩
  · exact rcheck_any t A cap B w hB ht (by omega)
/-- A table that was made: a slice of entries. -/
theorem own_shape2 {w : World} {base n : Nat} {e : TypeId} {v : Value} {xs : List Value} (h : w.ownsRow base e 2 v n xs) : ∃ A c, v = .slice A n c := by
  rcases h.2 with ⟨rfl, rfl⟩ | ⟨g, cap, _, rfl, _⟩
  · exact ⟨_, _, rfl⟩
  · exact ⟨_, _, rfl⟩
theorem table_is (l : List Int) (A : Option Addr) (cap B : Nat) (w : World) (hB : B ≤ w.heap.size) (hr : RdI w B .i64 A l) (hwf : ∀ n ∈ l, (Lit.int .i64 n).wf = true) (hl : l.length ≤ 140737488355328) :
    Calls Try.prog 28 #[.slice A l.length cap] w fun e w' => ∃ A2 c2, e = .returned (.slice A2 (tab l).length c2) ∧ RdsLp w' w'.heap.size A2 (tab l) ∧ Below w.heap.size w w' :=
  (table_any l A cap B w hB hr hwf hl).mono (by
    rintro e w' ⟨v, rfl, ho, hb⟩
    obtain ⟨A2, c2, rfl⟩ := own_shape2 ho
    exact ⟨A2, c2, by rw [tab_len], own_Rds ho (tab_len l).symm, hb⟩)
end K
end Go.Proofs.Ytlmbpbhdbgadjaa
