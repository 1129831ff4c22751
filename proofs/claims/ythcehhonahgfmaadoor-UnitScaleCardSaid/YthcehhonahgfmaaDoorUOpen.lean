/-
  How arguments that are dimensions or quantities are opened.
-/
import Derived.Test.YthcehhonahgfmaaDoorUMath
import Derived.Test.YthcehhonahgfmaaDoorKit
import Derived.Test.YthcehhonahgfmaaDoorProg
import Derived.ChangeArms
import Derived.WideShapes
import Derived.ChangeSame
namespace Go.Proofs.YthcehhonahgfmaaDoor
open Go.ChangeShapes Go.WideShapes Go.ChangeAt Go.RowKit
namespace U
open H
set_option linter.unusedVariables false
set_option maxRecDepth 100000

/-- An exponent, a number: what fits an int. -/
def I64 (a : Int) : Prop := -9223372036854775808 ≤ a ∧ a ≤ 9223372036854775807
def Dm.ok (x : Dm) : Prop := I64 x.e ∧ I64 x.d ∧ I64 x.t ∧ I64 x.a ∧ I64 x.h
def Qt.ok (q : Qt) : Prop := I64 q.n ∧ q.m.ok
theorem cellsD : Tryd.prog.cellsOf 23 = 5 := by kernel_rfl
theorem cellsQ : Tryd.prog.cellsOf 32 = 6 := by kernel_rfl
theorem cellsI : Tryd.prog.cellsOf 3 = 1 := by kernel_rfl
theorem dim_of {HH : Type} {enc : TypeId × Value → HH} {W : World} {n : Nat} {l : List Value} {y : DataW HH × List MemPlace} (h : DataW.trod enc Tryd.prog W 0 (fun _ => true) true n 23 l = some y) (hl : l.length = 5) :
    ∃ x : Dm, l = [.int .i64 x.e, .int .i64 x.d, .int .i64 x.t, .int .i64 x.a, .int .i64 x.h] ∧ x.ok := by
  obtain ⟨xs, m, _, _, _, hlen, hf⟩ := DataW.trod_struct Tryd.underlying23 h
  match l, hl with
  | [c0, c1, c2, c3, c4], _ =>
    have hx : xs.length = 5 := hlen
    have one : ∀ (i : Nat) (c : Value) (f : Field), DataW.trod enc Tryd.prog W 0 (fun _ => true) true m f.type (([c0, c1, c2, c3, c4].drop f.offset).take (Tryd.prog.cellsOf f.type)) = xs[i]? → f.type = 3 → ([c0, c1, c2, c3, c4].drop f.offset).take 1 = [c] → i < 5 → ∃ a : Int, c = .int .i64 a ∧ I64 a := by
      intro i c f h ht hc hi
      rw [ht, cellsI, hc, List.getElem?_eq_getElem (by omega)] at h
      obtain ⟨a, e, _, wf⟩ := DataW.trod_int Tryd.underlying3 h
      injection e with e
      exact ⟨a, e, i64_range wf⟩
    obtain ⟨a0, rfl, w0⟩ := one 0 c0 _ (hf 0 _ rfl) rfl rfl (by omega)
    obtain ⟨a1, rfl, w1⟩ := one 1 c1 _ (hf 1 _ rfl) rfl rfl (by omega)
    obtain ⟨a2, rfl, w2⟩ := one 2 c2 _ (hf 2 _ rfl) rfl rfl (by omega)
    obtain ⟨a3, rfl, w3⟩ := one 3 c3 _ (hf 3 _ rfl) rfl rfl (by omega)
    obtain ⟨a4, rfl, w4⟩ := one 4 c4 _ (hf 4 _ rfl) rfl rfl (by omega)
    exact ⟨⟨a0, a1, a2, a3, a4⟩, rfl, w0, w1, w2, w3, w4⟩
theorem open_dim {HH : Type} {enc : TypeId × Value → HH} {W : World} {r : Reach} {b0 : Nat} {v : Value} {d : DataW HH} {p : List MemPlace} (hv : Value.okWide Tryd.prog W r b0 23 v) (h : DataW.Trod enc Tryd.prog W 0 (fun _ => true) true 23 v d p) :
    ∃ x : Dm, v = .agg #[.int .i64 x.e, .int .i64 x.d, .int .i64 x.t, .int .i64 x.a, .int .i64 x.h] ∧ x.ok := by
  obtain ⟨cs, rfl, hsz⟩ := okWide_struct Tryd.underlying23 hv
  obtain ⟨fuel, hf⟩ := h
  obtain ⟨l⟩ := cs
  have hl : l.length = 5 := by rw [cellsD] at hsz; simpa using hsz
  obtain ⟨x, rfl, hx⟩ := dim_of (by simpa [Value.cells] using hf) hl
  exact ⟨x, rfl, hx⟩
theorem open_qty {HH : Type} {enc : TypeId × Value → HH} {W : World} {r : Reach} {b0 : Nat} {v : Value} {d : DataW HH} {p : List MemPlace} (hv : Value.okWide Tryd.prog W r b0 32 v) (h : DataW.Trod enc Tryd.prog W 0 (fun _ => true) true 32 v d p) :
    ∃ q : Qt, v = .agg #[.int .i64 q.n, .int .i64 q.m.e, .int .i64 q.m.d, .int .i64 q.m.t, .int .i64 q.m.a, .int .i64 q.m.h] ∧ q.ok := by
  obtain ⟨cs, rfl, hsz⟩ := okWide_struct Tryd.underlying32 hv
  obtain ⟨fuel, hf⟩ := h
  obtain ⟨l⟩ := cs
  have hl : l.length = 6 := by rw [cellsQ] at hsz; simpa using hsz
  match l, hl with
  | c0 :: l, hl =>
    obtain ⟨y0, y1, n, _, _, h0, h1⟩ := trod_struct2 Tryd.underlying32 (by simpa [Value.cells] using hf)
    dsimp only at h0 h1
    rw [cellsI] at h0
    rw [cellsD] at h1
    obtain ⟨a, e, _, wf⟩ := DataW.trod_int Tryd.underlying3 h0
    have e2 : c0 = .int .i64 a := by simpa using e
    have h1' : DataW.trod enc Tryd.prog W 0 (fun _ => true) true n 23 l = some y1 := by
      have : (List.take 5 (List.drop 1 (c0 :: l))) = l := by simp at hl; simp [hl, List.take_of_length_le]
      rw [← this]
      exact h1
    obtain ⟨x, rfl, hx⟩ := dim_of h1' (by simpa using hl)
    subst e2
    exact ⟨⟨a, x⟩, rfl, i64_range wf, hx⟩
end U
end Go.Proofs.YthcehhonahgfmaaDoor
