/-
  Contract of the specification of layer 6: Clone.
-/
import Derived.Test.YtnoohhpajoaaoaaDoorMRef2
namespace Go.Proofs.YtnoohhpajoaaoaaDoor
open Go.RowKit
namespace M
open H
set_option linter.unusedVariables false
set_option maxRecDepth 100000
theorem own_empty {w : World} {e : TypeId} : (w.alloc (.cells #[] e)).ownsRow 0 e 1 (.slice (some ⟨w.heap.size, 0, none⟩) 0 0) 0 [] :=
  ⟨rfl, .inr ⟨w.heap.size, 0, #[], rfl, Nat.zero_le _, heap_alloc_new w _, Nat.le_refl _, Nat.zero_le _, rfl, rfl⟩⟩
/-- What Clone leaves. -/
def ClonePost (R : World → Nat → Value → Mem → Prop) (m : Mem) (w : World) (r : Ending) (w' : World) : Prop :=
  ∃ b v, r = .returned (.pointer (some ⟨b, 0, none⟩)) ∧ Made R w w' b v m
theorem own_alloc {w : World} {base n : Nat} {e : TypeId} {v : Value} {xs : List Value} (h : w.ownsRow base e 1 v n xs) (o : Obj) : (w.alloc o).ownsRow base e 1 v n xs :=
  own_as h fun k hk => ((Below.refl w.heap.size w).alloc (Nat.le_refl _) o).block k (h.lt k hk).2
theorem clone_made {T e : TypeId} {w w9 : World} {m : Mem} {g9 cap : Nat} {o : Obj} (hT : e ≠ T) (ho : o = .cells #[] e) (hown : w9.ownsRow 0 e 1 (.slice (some ⟨g9, 0, none⟩) (0 + m.code.length) cap) (0 + m.code.length) ([] ++ codeC m))
    (hgrow : (w.alloc o).drew.grownBy w9 (Value.slice (some ⟨w.heap.size, 0, none⟩) 0 0).ownBlock) (hat : (Value.slice (some ⟨w.heap.size, 0, none⟩) 0 0).ownBlock = some g9 ∨ g9 = (w.alloc o).drew.heap.size) (hlt : g9 < w9.heap.size) :
    Made (fun w b v m => Obj1 T e w b (rcs v m) v (codeC m)) w (w9.alloc (.cells (rcs (.slice (some ⟨g9, 0, none⟩) m.code.length cap) m) T)) w9.heap.size (.slice (some ⟨g9, 0, none⟩) m.code.length cap) m := by
  rw [Nat.zero_add] at hown
  have hg : w.heap.size ≤ g9 := by
    rcases hat with h | h
    · have : w.heap.size = g9 := by simpa [Value.ownBlock] using h
      omega
    · rw [h]; show _ ≤ (w.alloc o).heap.size; simp
  have h1 : Below w.heap.size w (w.alloc o).drew := ((Below.refl w.heap.size w).alloc (Nat.le_refl _) o).drew
  have h2 : Save (fun j => (Value.slice (some ⟨w.heap.size, 0, none⟩) 0 0).ownBlock = some j) (w.alloc o).drew w9 := ⟨hgrow.os, hgrow.tape, hgrow.output, hgrow.size, fun j hj hf => hgrow.block j hj fun e => hf e.symm⟩
  have h3 : Below w.heap.size w w9 := h1.trans (h2.below h1.size fun k hk => by
    have : w.heap.size = k := by simpa [Value.ownBlock] using hk
    omega)
  refine ⟨⟨heap_alloc_new _ _, ?_⟩, fun k hk => ?_, h3.alloc h3.size _⟩
  · rw [codeC_len]
    exact own_alloc hown _
  · rcases hk with rfl | hk
    · exact h3.size
    · have : g9 = k := by simpa [Value.ownBlock] using hk
      omega
end M
end Go.Proofs.YtnoohhpajoaaoaaDoor
