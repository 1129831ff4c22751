/-
  Both Checks for lists of any length.
-/
import Derived.Test.YtojflmejkigdiaaQCkE
namespace Go.Proofs.Ytojflmejkigdiaa
open Go.RowKit Go.Shelf
namespace Q
open H
set_option linter.unusedVariables false
set_option linter.unusedSimpArgs false
set_option maxRecDepth 100000
theorem pcheck_all (T : List Wn) (A : Option Addr) (cap B : Nat) (w : World) (hB : B ≤ w.heap.size) (hcap : T.length ≤ cap) (hR : RdsWn w B A T) :
    Calls Try.prog 13 #[.slice A T.length cap] w fun e w' => e = .returned (.int .i64 (chk T)) ∧ Below w.heap.size w w' := by
  by_cases h200 : 200 < T.length
  · unfold chk
    rw [if_pos h200]
    have h2 : (200 : Int) < (T.length : Int) := by omega
    clear hR hcap
    generalize T.length = len at *
    go_enter Try.func13, Try.ntmps13
    go_wp2_with fail
    go_ret
    exact ⟨rfl, Below.refl _ _⟩
  · exact pcheck_any T A cap B w hB (by omega) hcap hR
theorem rcheck_all (T : List Wn) (A : Option Addr) (cap B : Nat) (w : World) (hB : B ≤ w.heap.size) (hR : RdsWn w B A T) :
    Calls Try.prog 14 #[.slice A T.length cap] w fun e w' => e = .returned (.int .i64 (rchk T)) ∧ Below w.heap.size w w' := by
  by_cases h200 : 200 < T.length
  · unfold rchk
    rw [if_pos h200]
    have h2 : (200 : Int) < (T.length : Int) := by omega
    clear hR
    generalize T.length = len at *
    go_enter Try.func14, Try.ntmps14
    go_wp2_with fail
    go_ret
    exact ⟨rfl, Below.refl _ _⟩
  · exact rcheck_any T A cap B w hB (by omega) hR
end Q
end Go.Proofs.Ytojflmejkigdiaa
