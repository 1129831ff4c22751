/-
  The seven cells of a case that is kept.
-/
import Derived.Test.YtlmbpbhdbgadjaaKKp
namespace Go.Proofs.Ytlmbpbhdbgadjaa
open Go.RowKit
namespace K
open H
set_option linter.unusedVariables false
theorem Kp.c7 {w W : World} {Z b : Nat} {L : CL} {x : Cs} (h : Kp w Z L W) (hm : ∀ t ∈ csL b x, t ∈ L) : W.cell? ⟨b, 0, none⟩ = some (.int .i64 x.lo) ∧ W.cell? ⟨b, 1, none⟩ = some (.int .i64 x.wide) ∧ W.cell? ⟨b, 2, none⟩ = some (.int .i64 x.sent) ∧ W.cell? ⟨b, 3, none⟩ = some (.int .i64 x.took) ∧ W.cell? ⟨b, 4, none⟩ = some (.int .i64 x.since) ∧ W.cell? ⟨b, 5, none⟩ = some (.int .i64 x.tick) ∧ W.cell? ⟨b, 6, none⟩ = some (.int .i64 x.drift) :=
  ⟨h.at (hm _ (by simp [csL])), h.at (hm _ (by simp [csL])), h.at (hm _ (by simp [csL])), h.at (hm _ (by simp [csL])), h.at (hm _ (by simp [csL])), h.at (hm _ (by simp [csL])), h.at (hm _ (by simp [csL]))⟩
theorem mem2 {a b : Nat × Nat × Int} {L M : CL} : ∀ t ∈ L, t ∈ a :: b :: (L ++ M) := fun t ht => List.mem_cons_of_mem _ (List.mem_cons_of_mem _ (List.mem_append_left _ ht))
theorem mem5 {a b c d e : Nat × Nat × Int} {L M : CL} : ∀ t ∈ L, t ∈ a :: b :: c :: d :: e :: (L ++ M) := fun t ht => List.mem_cons_of_mem _ (List.mem_cons_of_mem _ (List.mem_cons_of_mem _ (mem2 t ht)))
end K
end Go.Proofs.Ytlmbpbhdbgadjaa
