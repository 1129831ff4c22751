/-
  How an argument that is a battery is opened.
-/
import Derived.Test.YtobbnbelacncjaaPwK
import Derived.Test.YtobbnbelacncjaaOpen
namespace Go.Proofs.Ytobbnbelacncjaa
open Go.ChangeShapes Go.WideShapes Go.ChangeAt Go.RowKit
namespace Pw
open H
set_option linter.unusedVariables false
set_option maxRecDepth 100000
def Bt.Ok (x : Bt) : Prop := I64 x.cap ∧ I64 x.chg ∧ I64 x.res
theorem cellsBt : Try.prog.cellsOf 23 = 3 := by kernel_rfl
theorem cellsI1 : Try.prog.cellsOf 3 = 1 := by kernel_rfl
theorem open_Bt {HH : Type} {enc : TypeId × Value → HH} {W : World} {r : Reach} {b0 : Nat} {v : Value} {d : DataW HH} {p : List MemPlace} (hv : Value.okWide Try.prog W r b0 23 v) (h : DataW.Trod enc Try.prog W 0 (fun _ => true) true 23 v d p) :
    ∃ x : Bt, v = x.v ∧ x.Ok := by
  obtain ⟨cs, rfl, hsz⟩ := okWide_struct Try.underlying23 hv
  obtain ⟨fuel, hf⟩ := h
  obtain ⟨l⟩ := cs
  have hl : l.length = 3 := by rw [cellsBt] at hsz; simpa using hsz
  have hf' : DataW.trod enc Try.prog W 0 (fun _ => true) true fuel 23 l = some (d, p) := by simpa [Value.cells] using hf
  obtain ⟨xs, m, _, _, _, hlen, hff⟩ := DataW.trod_struct Try.underlying23 hf'
  match l, hl with
  | [c0, c1, c2], _ =>
    have hx : xs.length = 3 := hlen
    have one : ∀ (i : Nat) (c : Value) (f : Field), DataW.trod enc Try.prog W 0 (fun _ => true) true m f.type (([c0, c1, c2].drop f.offset).take (Try.prog.cellsOf f.type)) = xs[i]? → f.type = 3 → ([c0, c1, c2].drop f.offset).take 1 = [c] → i < 3 → ∃ a : Int, c = .int .i64 a ∧ I64 a := by
      intro i c f h ht hc hi
      rw [ht, cellsI1, hc, List.getElem?_eq_getElem (by omega)] at h
      obtain ⟨a, e, _, wf⟩ := DataW.trod_int Try.underlying3 h
      injection e with e
      exact ⟨a, e, i64_range wf⟩
    obtain ⟨a0, rfl, w0⟩ := one 0 c0 _ (hff 0 _ rfl) rfl rfl (by omega)
    obtain ⟨a1, rfl, w1⟩ := one 1 c1 _ (hff 1 _ rfl) rfl rfl (by omega)
    obtain ⟨a2, rfl, w2⟩ := one 2 c2 _ (hff 2 _ rfl) rfl rfl (by omega)
    exact ⟨⟨a0, a1, a2⟩, rfl, w0, w1, w2⟩
end Pw
end Go.Proofs.Ytobbnbelacncjaa
