/-
  The specification's Lookup.
-/
import Derived.Test.YthcehhonahgfmaaDoorURef3
import Derived.Test.YthcehhonahgfmaaDoorUStr
namespace Go.Proofs.YthcehhonahgfmaaDoor
open Go.RowKit
namespace U
open H
set_option linter.unusedVariables false

/-- The units. -/
def lookT (l : List UInt8) : Dm × Int × Bool :=
  if (l == [74]) = true then (⟨1, 0, 0, 0, 0⟩, 1, true) else
  if (l == [107, 74]) = true then (⟨1, 0, 0, 0, 0⟩, 1000, true) else
  if (l == [87, 104]) = true then (⟨1, 0, 0, 0, 0⟩, 3600, true) else
  if (l == [66]) = true then (⟨0, 1, 0, 0, 0⟩, 1, true) else
  if (l == [107, 66]) = true then (⟨0, 1, 0, 0, 0⟩, 1000, true) else
  if (l == [115]) = true then (⟨0, 0, 1, 0, 0⟩, 1, true) else
  if (l == [109, 105, 110]) = true then (⟨0, 0, 1, 0, 0⟩, 60, true) else
  if (l == [104]) = true then (⟨0, 0, 1, 0, 0⟩, 3600, true) else
  if (l == [100, 101, 103]) = true then (⟨0, 0, 0, 1, 0⟩, 1, true) else
  if (l == [75]) = true then (⟨0, 0, 0, 0, 1⟩, 1, true) else
  if (l == [87]) = true then (⟨1, 0, -1, 0, 0⟩, 1, true) else
  if (l == [107, 87]) = true then (⟨1, 0, -1, 0, 0⟩, 1000, true) else
  if (l == [66, 112, 115]) = true then (⟨0, 1, -1, 0, 0⟩, 1, true) else
  (.zero, 0, false)

set_option maxRecDepth 100000 in
set_option maxHeartbeats 1000000 in
theorem rlook_any (s : ByteArray) (w : World) :
    Calls Tryd.prog 15 #[.string s] w fun r w' => r = .returned (.tuple #[.agg #[.int .i64 (lookT s.toList).1.e, .int .i64 (lookT s.toList).1.d, .int .i64 (lookT s.toList).1.t, .int .i64 (lookT s.toList).1.a, .int .i64 (lookT s.toList).1.h], .int .i64 (lookT s.toList).2.1, .bool (lookT s.toList).2.2]) ∧ Below w.heap.size w w' := by
  go_enter Tryd.func15, Tryd.ntmps15
  go_wp2_with fail
  all_goals
    refine bodyPost_ret (results_row_tmp2 (ty := 23) rfl _ _ w.heap.size 23 _ (0, 0) _ _ _ rfl rfl rfl (heap_alloc_new w _) Tryd.underlying23 rfl sizeD) rfl ⟨?_, bel1 w _⟩
    simp only [lookT, *, if_true, Bool.false_eq_true, if_false]
    rfl
end U
end Go.Proofs.YthcehhonahgfmaaDoor
