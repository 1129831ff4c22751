/-
  How an argument that is a query of the laws of orbit is opened.
-/
import Derived.Test.YtojflmejkigdiaaQMath
import Derived.Test.YtojflmejkigdiaaQRef01
import Derived.Test.YtojflmejkigdiaaOpen
namespace Go.Proofs.Ytojflmejkigdiaa
open Go.ChangeShapes Go.WideShapes Go.ChangeAt Go.RowKit
namespace Q
open H
set_option linter.unusedVariables false
set_option maxRecDepth 100000
structure Qy where
  kind : Int
  a : Int
  b : Int
  tick : Int
  fr : Int
  un : Int
abbrev Qy.v (x : Qy) : Value := .agg #[.int .i64 x.kind, .int .i64 x.a, .int .i64 x.b, .int .i64 x.tick, .int .i64 x.fr, .int .i64 x.un]
def Qy.Ok (x : Qy) : Prop := I64 x.kind ∧ I64 x.a ∧ I64 x.b ∧ I64 x.tick ∧ I64 x.fr ∧ I64 x.un
theorem cellsQy : Try.prog.cellsOf 34 = 6 := by kernel_rfl
theorem cellsI1 : Try.prog.cellsOf 3 = 1 := by kernel_rfl
theorem open_Qy {HH : Type} {enc : TypeId × Value → HH} {W : World} {r : Reach} {b0 : Nat} {v : Value} {d : DataW HH} {p : List MemPlace} (hv : Value.okWide Try.prog W r b0 34 v) (h : DataW.Trod enc Try.prog W 0 (fun _ => true) true 34 v d p) :
    ∃ x : Qy, v = x.v ∧ x.Ok := by
  obtain ⟨cs, rfl, hsz⟩ := okWide_struct Try.underlying34 hv
  obtain ⟨fuel, hf⟩ := h
  obtain ⟨l⟩ := cs
  have hl : l.length = 6 := by rw [cellsQy] at hsz; simpa using hsz
  have hf' : DataW.trod enc Try.prog W 0 (fun _ => true) true fuel 34 l = some (d, p) := by simpa [Value.cells] using hf
  obtain ⟨xs, m, _, _, _, hlen, hff⟩ := DataW.trod_struct Try.underlying34 hf'
  match l, hl with
  | [c0, c1, c2, c3, c4, c5], _ =>
    have hx : xs.length = 6 := hlen
    have one : ∀ (i : Nat) (c : Value) (f : Field), DataW.trod enc Try.prog W 0 (fun _ => true) true m f.type (([c0, c1, c2, c3, c4, c5].drop f.offset).take (Try.prog.cellsOf f.type)) = xs[i]? → f.type = 3 → ([c0, c1, c2, c3, c4, c5].drop f.offset).take 1 = [c] → i < 6 → ∃ a : Int, c = .int .i64 a ∧ I64 a := by
      intro i c f h ht hc hi
      rw [ht, cellsI1, hc, List.getElem?_eq_getElem (by omega)] at h
      obtain ⟨a, e, _, wf⟩ := DataW.trod_int Try.underlying3 h
      injection e with e
      exact ⟨a, e, i64_range wf⟩
    obtain ⟨a0, rfl, w0⟩ := one 0 c0 _ (hff 0 _ rfl) rfl rfl (by omega)
    obtain ⟨a1, rfl, w1⟩ := one 1 c1 _ (hff 1 _ rfl) rfl rfl (by omega)
    obtain ⟨a2, rfl, w2⟩ := one 2 c2 _ (hff 2 _ rfl) rfl rfl (by omega)
    obtain ⟨a3, rfl, w3⟩ := one 3 c3 _ (hff 3 _ rfl) rfl rfl (by omega)
    obtain ⟨a4, rfl, w4⟩ := one 4 c4 _ (hff 4 _ rfl) rfl rfl (by omega)
    obtain ⟨a5, rfl, w5⟩ := one 5 c5 _ (hff 5 _ rfl) rfl rfl (by omega)
    exact ⟨⟨a0, a1, a2, a3, a4, a5⟩, rfl, w0, w1, w2, w3, w4, w5⟩
end Q
end Go.Proofs.Ytojflmejkigdiaa
