/-
  Cells beside a box that is stored anew; two cases that are kept.
-/
import Derived.Test.YtlmbpbhdbgadjaaKKp2
import Derived.Test.YtlmbpbhdbgadjaaKMath3
namespace Go.Proofs.Ytlmbpbhdbgadjaa
open Go.RowKit
namespace K
open H
set_option linter.unusedVariables false
theorem set2_far {W : World} {b : Nat} {x y v : Value} {a : Addr} (h : W.cell? a = some v) (hne : a.block < b) : ((W.setCell ⟨b, 0, none⟩ x).setCell ⟨b, 1, none⟩ y).cell? a = some v := by
  rw [World.cell?_setCell_far _ _ _ _ (by show b ≠ _; omega), World.cell?_setCell_far _ _ _ _ (by show b ≠ _; omega)]; exact h
theorem newC2 (w : World) (x y : Cs) (T : TypeId) : ∃ L : CL, Kp w ((w.alloc (.cells #[.int .i64 x.lo, .int .i64 x.wide, .int .i64 x.sent, .int .i64 x.took, .int .i64 x.since, .int .i64 x.tick, .int .i64 x.drift] T)).alloc (.cells #[.int .i64 y.lo, .int .i64 y.wide, .int .i64 y.sent, .int .i64 y.took, .int .i64 y.since, .int .i64 y.tick, .int .i64 y.drift] T)).heap.size L ((w.alloc (.cells #[.int .i64 x.lo, .int .i64 x.wide, .int .i64 x.sent, .int .i64 x.took, .int .i64 x.since, .int .i64 x.tick, .int .i64 x.drift] T)).alloc (.cells #[.int .i64 y.lo, .int .i64 y.wide, .int .i64 y.sent, .int .i64 y.took, .int .i64 y.since, .int .i64 y.tick, .int .i64 y.drift] T)) ∧ (∀ t ∈ csL w.heap.size x, t ∈ L) ∧ (∀ t ∈ csL (w.heap.size + 1) y, t ∈ L) := by
  have h := ((Kp.start w).newC x T).newC y T
  rw [show (w.alloc (.cells #[.int .i64 x.lo, .int .i64 x.wide, .int .i64 x.sent, .int .i64 x.took, .int .i64 x.since, .int .i64 x.tick, .int .i64 x.drift] T)).heap.size = w.heap.size + 1 by simp] at h
  exact ⟨_, h, fun t ht => List.mem_append_right _ (List.mem_append_left _ ht), fun t ht => List.mem_append_left _ ht⟩
theorem up2 {a b : Nat × Nat × Int} {L M : CL} (h : ∀ t ∈ M, t ∈ L) : ∀ t ∈ M, t ∈ a :: b :: L := fun t ht => List.mem_cons_of_mem _ (List.mem_cons_of_mem _ (h t ht))
theorem up3 {a b c : Nat × Nat × Int} {L M : CL} (h : ∀ t ∈ M, t ∈ L) : ∀ t ∈ M, t ∈ a :: b :: c :: L := fun t ht => List.mem_cons_of_mem _ (up2 h t ht)
end K
end Go.Proofs.Ytlmbpbhdbgadjaa
