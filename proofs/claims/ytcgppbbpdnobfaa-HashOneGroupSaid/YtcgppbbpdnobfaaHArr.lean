/-
  An argument that is an array of eight bytes.
-/
import Derived.Test.YtcgppbbpdnobfaaHCopy
namespace Go.Proofs.Ytcgppbbpdnobfaa
open Go.ChangeShapes Go.WideShapes Go.ChangeAt Go.RowKit
namespace H

theorem len8 {α : Type} {l : List α} (h : l.length = 8) : ∃ a0 a1 a2 a3 a4 a5 a6 a7, l = [a0, a1, a2, a3, a4, a5, a6, a7] := by
  match l, h with
  | [a0, a1, a2, a3, a4, a5, a6, a7], _ => exact ⟨a0, a1, a2, a3, a4, a5, a6, a7, rfl⟩

theorem cells8 : Try.prog.cellsOf 37 = 8 := by kernel_rfl
theorem cells1 : Try.prog.cellsOf 5 = 1 := by kernel_rfl

theorem open_arr8 {HH : Type} {enc : TypeId × Value → HH} {W : World} {base : Nat} {v : Value} {d : DataW HH} {p : List MemPlace}
    (hv : Value.okWide Try.prog W .any base 37 v) (h : DataW.Trod enc Try.prog W 0 (fun _ => true) true 37 v d p) :
    ∃ y0 y1 y2 y3 y4 y5 y6 y7 : Int, v = .agg #[.int .u8 y0, .int .u8 y1, .int .u8 y2, .int .u8 y3, .int .u8 y4, .int .u8 y5, .int .u8 y6, .int .u8 y7] ∧
      (Lit.int .u8 y0).wf = true ∧ (Lit.int .u8 y1).wf = true ∧ (Lit.int .u8 y2).wf = true ∧ (Lit.int .u8 y3).wf = true ∧ (Lit.int .u8 y4).wf = true ∧ (Lit.int .u8 y5).wf = true ∧ (Lit.int .u8 y6).wf = true ∧ (Lit.int .u8 y7).wf = true := by
  simp only [Value.okWide, Try.underlying37] at hv
  obtain ⟨cs, rfl, hsz, _⟩ := hv
  obtain ⟨l⟩ := cs
  rw [cells8] at hsz
  obtain ⟨c0, c1, c2, c3, c4, c5, c6, c7, rfl⟩ := len8 (l := l) (by simpa using hsz)
  obtain ⟨fuel, hf⟩ := h
  obtain ⟨xs, m, rfl, _, _, hn, hel⟩ := DataW.trod_array Try.underlying37 hf
  rw [cells1] at hel
  have key : ∀ i (hi : i < 8), ∃ y : Int, ([c0, c1, c2, c3, c4, c5, c6, c7] : List Value)[i]? = some (.int .u8 y) ∧ (Lit.int .u8 y).wf = true := by
    intro i hi
    have h1 := hel i hi
    rw [List.getElem?_eq_getElem (by rw [hn]; exact hi)] at h1
    obtain ⟨k, e1, _, hw⟩ := DataW.trod_int Try.underlying5 h1
    refine ⟨k, ?_, hw⟩
    have e2 := congrArg (·[0]?) e1
    simpa [Value.cells, List.getElem?_take, List.getElem?_drop] using e2
  obtain ⟨y0, e0, w0⟩ := key 0 (by omega)
  obtain ⟨y1, e1, w1⟩ := key 1 (by omega)
  obtain ⟨y2, e2, w2⟩ := key 2 (by omega)
  obtain ⟨y3, e3, w3⟩ := key 3 (by omega)
  obtain ⟨y4, e4, w4⟩ := key 4 (by omega)
  obtain ⟨y5, e5, w5⟩ := key 5 (by omega)
  obtain ⟨y6, e6, w6⟩ := key 6 (by omega)
  obtain ⟨y7, e7, w7⟩ := key 7 (by omega)
  simp at e0 e1 e2 e3 e4 e5 e6 e7
  subst e0 e1 e2 e3 e4 e5 e6 e7
  exact ⟨y0, y1, y2, y3, y4, y5, y6, y7, rfl, w0, w1, w2, w3, w4, w5, w6, w7⟩

end H
end Go.Proofs.Ytcgppbbpdnobfaa
