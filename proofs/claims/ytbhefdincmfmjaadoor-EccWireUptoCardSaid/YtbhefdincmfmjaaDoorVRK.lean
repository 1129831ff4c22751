/-
  The program's Reader: Ints.
-/
import Derived.Test.YtbhefdincmfmjaaDoorVRJ
namespace Go.Proofs.YtbhefdincmfmjaaDoor
open Go.RowKit
namespace W
open H
set_option linter.unusedVariables false

theorem own_save {F : Nat → Prop} {w w' : World} {base n : Nat} {e : TypeId} {v : Value} {xs : List Value} (h : w.ownsRow base e 1 v n xs) (hs : Save F w w') (hF : ∀ k, F k → k < base) : w'.ownsRow base e 1 v n xs := by
  refine ⟨h.1, ?_⟩
  rcases h.2 with h2 | ⟨g, cap, cur, hv, hg, hh, hr⟩
  · exact .inl h2
  · exact .inr ⟨g, cap, cur, hv, hg, (hs.block g (blk_lt hh) fun hf => by have := hF g hf; omega).trans hh, hr⟩

theorem Save.upto {F : Nat → Prop} {w a b : World} (h : Save F w a) (hb : Below w.heap.size a b) : Save F w b :=
  ⟨hb.os.trans h.os, hb.tape.trans h.tape, hb.output.trans h.output, Nat.le_trans h.size hb.size, fun k hk hf => (hb.block k hk).trans (h.block k hk hf)⟩

theorem rL_err0 {s : St} {m : Int} (h : (rS s m).1.2 ≠ 0) : rL s m = ((rS s m).1, []) := by
  unfold rL
  rw [rS_zero h, rN]
  simp only
  rw [if_pos h]

end W
end Go.Proofs.YtbhefdincmfmjaaDoor
