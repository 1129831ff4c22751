/-
  The program's Reader: Int, lengths, Bytes, Ints.
-/
import Derived.Test.YtbhefdincmfmjaaDoorVRU
import Derived.Laws.DeepNot64
namespace Go.Proofs.YtbhefdincmfmjaaDoor
open Go.RowKit
namespace W
open H
set_option linter.unusedVariables false

theorem and_one {u : Nat} (hu : u < 18446744073709551616) : bits .and .u64 (u : Int) 1 = ((u % 2 : Nat) : Int) := by
  have := bits_mask .u64 64 (by decide) wraps_u64 1 (by decide) (u : Int) (by omega) (by omega)
  simpa using this

theorem StOf.lt {w : World} {b : Nat} {A : Option Addr} {n c : Nat} {bs : List Int} {k : Nat} {e : Int} {s : St} (h : RAt w b A n c bs k e) (hs : StOf bs k e s) : (rU s).2 < 18446744073709551616 := by
  obtain ⟨s1, s2⟩ := s
  obtain ⟨rfl, h1⟩ := hs
  by_cases he : s2 = 0
  · have := h1 he
    simp only at this
    rw [this]
    exact rU_lt (fun x hx => h.byt x (List.mem_of_mem_drop hx)) _
  · rw [rU_err he]
    show 0 < 18446744073709551616
    decide

end W
end Go.Proofs.YtbhefdincmfmjaaDoor
