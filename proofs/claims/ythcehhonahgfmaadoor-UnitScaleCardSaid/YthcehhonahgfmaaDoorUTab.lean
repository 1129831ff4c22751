/-
  The program's tables: what the rows' list of variables gives, and the shape of the first world; a world for the witness.
-/
import Derived.Test.YthcehhonahgfmaaDoorCards
import Derived.Test.YthcehhonahgfmaaDoorTie
import Derived.Test.YthcehhonahgfmaaDoorOpen
import Derived.Test.YthcehhonahgfmaaDoorShelf
import Derived.Test.YthcehhonahgfmaaDoorULook
import Derived.Test.YthcehhonahgfmaaDoorUOpen
import Derived.Deep.DeepHandedRow
import Derived.Lib.LaidTab
import Derived.Lay
import Derived.LaidLaws
import Derived.Stop.LaidErr
namespace Go.Proofs.YthcehhonahgfmaaDoor
open Go.ChangeShapes Go.WideShapes Go.ChangeAt Go.RowKit
namespace U
open H
set_option linter.unusedVariables false
set_option maxRecDepth 100000

noncomputable def laidL : List (String × DataW Unit) := Rows.unitLookupRow.laid
/-- The rows of the program's table: name, factor, dimension. -/
def unitL : List (List UInt8 × Int × Dm) :=
  [([74], 1, ⟨1, 0, 0, 0, 0⟩), ([107, 74], 1000, ⟨1, 0, 0, 0, 0⟩), ([87, 104], 3600, ⟨1, 0, 0, 0, 0⟩), ([66], 1, ⟨0, 1, 0, 0, 0⟩), ([107, 66], 1000, ⟨0, 1, 0, 0, 0⟩),
   ([115], 1, ⟨0, 0, 1, 0, 0⟩), ([109, 105, 110], 60, ⟨0, 0, 1, 0, 0⟩), ([104], 3600, ⟨0, 0, 1, 0, 0⟩), ([100, 101, 103], 1, ⟨0, 0, 0, 1, 0⟩), ([75], 1, ⟨0, 0, 0, 0, 1⟩),
   ([87], 1, ⟨1, 0, -1, 0, 0⟩), ([107, 87], 1000, ⟨1, 0, -1, 0, 0⟩), ([66, 112, 115], 1, ⟨0, 1, -1, 0, 0⟩)]
def rowC (r : List UInt8 × Int × Dm) : List Value := [.string ⟨r.1.toArray⟩, .int .i64 r.2.1, .int .i64 r.2.2.e, .int .i64 r.2.2.d, .int .i64 r.2.2.t, .int .i64 r.2.2.a, .int .i64 r.2.2.h]
def unitC : List Value := (unitL.map rowC).flatten
def baseC : List Value := [.string ⟨#[74]⟩, .string ⟨#[66]⟩, .string ⟨#[115]⟩, .string ⟨#[100, 101, 103]⟩, .string ⟨#[75]⟩]
/-- What the contracts ask of the world. -/
structure Tab (w : World) : Prop where
  units : ∀ i, i < 91 → w.cell? ⟨0, i, none⟩ = unitC[i]?
  bases : ∀ i, i < 5 → w.cell? ⟨1, i, none⟩ = baseC[i]?
  pow : Lib.TabIs Tryd.prog w "internal/strconv.uint64pow10" .u64 Lib.pow10Tab
  synt : ∃ te pe, w.cell? ⟨4, 0, none⟩ = some (.iface te pe)
  rang : ∃ te pe, w.cell? ⟨5, 0, none⟩ = some (.iface te pe)
  maxl : ∃ m, w.cell? ⟨3, 0, none⟩ = some (.int .i64 m)
/-! ### From what the row lists -/
theorem int_val {HH : Type} {enc : TypeId × Value → HH} {W : World} {b : Nat} {sp : Nat → Bool} {hd : Bool} {n : Nat} {l : List Value} {z : Int} {p : List MemPlace} (h : DataW.trod enc Tryd.prog W b sp hd n 3 l = some (.lit (.int .i64 z), p)) : l = [.int .i64 z] := by
  obtain ⟨a, e, hx, _⟩ := DataW.trod_int Tryd.underlying3 h
  simp only [Prod.mk.injEq, DataW.lit.injEq, Lit.int.injEq, true_and] at hx
  rw [e, hx.1]
theorem str_val {HH : Type} {enc : TypeId × Value → HH} {W : World} {b : Nat} {sp : Nat → Bool} {hd : Bool} {n : Nat} {l : List Value} {z : List UInt8} {p : List MemPlace} (h : DataW.trod enc Tryd.prog W b sp hd n 9 l = some (.lit (.string z), p)) : l = [.string ⟨z.toArray⟩] := by
  obtain ⟨a, e, hx, _⟩ := DataW.trod_string Tryd.underlying9 h
  simp only [Prod.mk.injEq, DataW.lit.injEq, Lit.string.injEq] at hx
  rw [e, hx.1, ← ba_ext rfl]
theorem cellsS : Tryd.prog.cellsOf 9 = 1 := by kernel_rfl
theorem cellsR : Tryd.prog.cellsOf 47 = 7 := by kernel_rfl
theorem dim_val {HH : Type} {enc : TypeId × Value → HH} {W : World} {b : Nat} {sp : Nat → Bool} {hd : Bool} {n : Nat} {l : List Value} {x : Dm} {p : List MemPlace} (h : DataW.trod enc Tryd.prog W b sp hd n 23 l = some (.agg [.lit (.int .i64 x.e), .lit (.int .i64 x.d), .lit (.int .i64 x.t), .lit (.int .i64 x.a), .lit (.int .i64 x.h)], p)) :
    l = [.int .i64 x.e, .int .i64 x.d, .int .i64 x.t, .int .i64 x.a, .int .i64 x.h] := by
  obtain ⟨xs, m, _, hx, hl, hlen, hf⟩ := DataW.trod_struct Tryd.underlying23 h
  rw [cellsD] at hl
  have hxs := (congrArg Prod.fst hx).symm
  simp only [DataW.agg.injEq] at hxs
  match l, hl, xs, hlen, hxs with
  | [c0, c1, c2, c3, c4], _, [y0, y1, y2, y3, y4], _, hxs =>
    simp only [List.map_cons, List.map_nil, List.cons.injEq, and_true] at hxs
    obtain ⟨e0, e1, e2, e3, e4⟩ := hxs
    have one : ∀ (c : Value) (y : DataW HH × List MemPlace) (z : Int), DataW.trod enc Tryd.prog W b sp hd m 3 [c] = some y → y.1 = .lit (.int .i64 z) → c = .int .i64 z := by
      intro c y z h1 h2
      obtain ⟨y1, y2⟩ := y
      dsimp only at h2
      subst h2
      exact (List.cons.inj (int_val h1)).1
    have g0 := one c0 y0 _ (hf 0 _ rfl) e0
    have g1 := one c1 y1 _ (hf 1 _ rfl) e1
    have g2 := one c2 y2 _ (hf 2 _ rfl) e2
    have g3 := one c3 y3 _ (hf 3 _ rfl) e3
    have g4 := one c4 y4 _ (hf 4 _ rfl) e4
    rw [g0, g1, g2, g3, g4]
/-- A row of the table as data. -/
def rowD {HH : Type} (r : List UInt8 × Int × Dm) : DataW HH := .agg [.lit (.string r.1), .lit (.int .i64 r.2.1), .agg [.lit (.int .i64 r.2.2.e), .lit (.int .i64 r.2.2.d), .lit (.int .i64 r.2.2.t), .lit (.int .i64 r.2.2.a), .lit (.int .i64 r.2.2.h)]]
theorem row_val {HH : Type} {enc : TypeId × Value → HH} {W : World} {b : Nat} {sp : Nat → Bool} {hd : Bool} {n : Nat} {l : List Value} {r : List UInt8 × Int × Dm} {p : List MemPlace} (h : DataW.trod enc Tryd.prog W b sp hd n 47 l = some (rowD r, p)) : l = rowC r := by
  obtain ⟨xs, m, _, hx, hl, hlen, hf⟩ := DataW.trod_struct Tryd.underlying47 h
  rw [cellsR] at hl
  have hxs := (congrArg Prod.fst hx).symm
  simp only [rowD, DataW.agg.injEq] at hxs
  match l, hl, xs, hlen, hxs with
  | [c0, c1, c2, c3, c4, c5, c6], _, [y0, y1, y2], _, hxs =>
    simp only [List.map_cons, List.map_nil, List.cons.injEq, and_true] at hxs
    obtain ⟨e0, e1, e2⟩ := hxs
    have f0 := hf 0 _ rfl
    have f1 := hf 1 _ rfl
    have f2 := hf 2 _ rfl
    obtain ⟨y01, y02⟩ := y0
    obtain ⟨y11, y12⟩ := y1
    obtain ⟨y21, y22⟩ := y2
    dsimp only at e0 e1 e2
    subst e0 e1 e2
    have g0 : [c0] = _ := str_val f0
    have g1 : [c1] = _ := int_val f1
    have g2 : [c2, c3, c4, c5, c6] = _ := dim_val f2
    simp only [List.cons.injEq, and_true] at g0 g1 g2
    obtain ⟨h2, h3, h4, h5, h6⟩ := g2
    rw [g0, g1, h2, h3, h4, h5, h6]
    rfl
theorem gU : Tryd.prog.globalNamed "perigee/unit.units" = some 0 := by kernel_rfl
theorem gUType : (Tryd.prog.globals[0]?).map (·.type) = some 48 := by kernel_rfl
theorem gB : Tryd.prog.globalNamed "perigee/unit.bases" = some 1 := by kernel_rfl
theorem gBType : (Tryd.prog.globals[1]?).map (·.type) = some 55 := by kernel_rfl
theorem cellsU13 : Tryd.prog.cellsOf 48 = 91 := by kernel_rfl
theorem cellsB5 : Tryd.prog.cellsOf 55 = 5 := by kernel_rfl
theorem units_of {W : World} {r : List (String × DataW Unit)} (h : laidMet Tryd.prog (("perigee/unit.units", Rows.laid_perigee_unit_units) :: r) W) : ∀ i, i < 91 → W.cell? ⟨0, i, none⟩ = unitC[i]? := by
  obtain ⟨ps, ⟨g, t, cs, fuel, p, q, hg, ht, hvar, hd, _, _⟩, _⟩ := h
  obtain rfl := Option.some.inj (gU.symm.trans hg)
  obtain rfl := Option.some.inj (gUType.symm.trans ht)
  intro i hi
  rw [World.var?_cell gU hvar i]
  obtain ⟨xs, m, _, hx, hl, hlen, hf⟩ := DataW.trod_array Tryd.underlying48 hd
  have hxs : xs.map (·.1) = unitL.map rowD := by
    have := (congrArg Prod.fst hx).symm
    exact DataW.agg.inj this
  rw [cellsU13] at hl
  have hrow : ∀ k, k < 13 → (cs.toList.drop (k * 7)).take 7 = rowC (unitL[k]?.getD ([], 0, .zero)) := by
    intro k hk
    have h1 := hf k hk
    rw [cellsR] at h1
    have hk2 : k < xs.length := by omega
    rw [List.getElem?_eq_getElem hk2] at h1
    have h2 : (xs[k]'hk2).1 = rowD (unitL[k]?.getD ([], 0, .zero)) := by
      have h3 := congrArg (·[k]?) hxs
      have hk3 : k < unitL.length := hk
      simp only [List.getElem?_map, List.getElem?_eq_getElem hk2, List.getElem?_eq_getElem hk3, Option.map_some, Option.some.injEq] at h3
      rw [h3, List.getElem?_eq_getElem hk3]
      rfl
    generalize xs[k]'hk2 = y at h1 h2
    obtain ⟨y1, y2⟩ := y
    dsimp only at h2
    subst h2
    exact row_val h1
  have hk : i / 7 < 13 := by omega
  have h1 := congrArg (·[i % 7]?) (hrow (i / 7) hk)
  simp only [List.getElem?_take, List.getElem?_drop] at h1
  rw [if_pos (by omega), show i / 7 * 7 + i % 7 = i by omega] at h1
  have hall : (List.range 91).map (fun i => (rowC (unitL[i / 7]?.getD ([], 0, .zero)))[i % 7]?) = (List.range 91).map (fun i => unitC[i]?) := by kernel_rfl
  have hdec := congrArg (·[i]?) hall
  simp only [List.getElem?_map, List.getElem?_range hi, Option.map_some, Option.some.injEq] at hdec
  rw [← hdec, ← h1]
  simp
theorem bases_of {W : World} {r : List (String × DataW Unit)} (h : laidMet Tryd.prog (("perigee/unit.bases", Rows.laid_perigee_unit_bases) :: r) W) : ∀ i, i < 5 → W.cell? ⟨1, i, none⟩ = baseC[i]? := by
  obtain ⟨ps, ⟨g, t, cs, fuel, p, q, hg, ht, hvar, hd, _, _⟩, _⟩ := h
  obtain rfl := Option.some.inj (gB.symm.trans hg)
  obtain rfl := Option.some.inj (gBType.symm.trans ht)
  intro i hi
  rw [World.var?_cell gB hvar i]
  obtain ⟨xs, m, _, hx, hl, hlen, hf⟩ := DataW.trod_array Tryd.underlying55 hd
  have hxs := (congrArg Prod.fst hx).symm
  unfold Rows.laid_perigee_unit_bases at hxs
  simp only [DataW.agg.injEq] at hxs
  rw [cellsB5] at hl
  simp only [cellsS] at hf
  obtain ⟨l⟩ := cs
  match l, hl, xs, hlen, hxs with
  | [c0, c1, c2, c3, c4], _, [y0, y1, y2, y3, y4], _, hxs =>
    simp only [List.map_cons, List.map_nil, List.cons.injEq, and_true] at hxs
    obtain ⟨e0, e1, e2, e3, e4⟩ := hxs
    have one : ∀ (c : Value) (y : DataW Unit × List MemPlace) (z : List UInt8), DataW.trod (fun _ => ()) Tryd.prog W 0 (fun _ => true) false m 9 [c] = some y → y.1 = .lit (.string z) → c = .string ⟨z.toArray⟩ := by
      intro c y z h1 h2
      obtain ⟨y1, y2⟩ := y
      dsimp only at h2
      subst h2
      exact (List.cons.inj (str_val h1)).1
    have g0 := one c0 y0 _ (hf 0 (by omega)) e0
    have g1 := one c1 y1 _ (hf 1 (by omega)) e1
    have g2 := one c2 y2 _ (hf 2 (by omega)) e2
    have g3 := one c3 y3 _ (hf 3 (by omega)) e3
    have g4 := one c4 y4 _ (hf 4 (by omega)) e4
    rw [g0, g1, g2, g3, g4]
    match i, hi with
    | 0, _ => rfl
    | 1, _ => rfl
    | 2, _ => rfl
    | 3, _ => rfl
    | 4, _ => rfl
theorem gP : Tryd.prog.globalNamed "internal/strconv.uint64pow10" = some 2 := by kernel_rfl
theorem gPType : (Tryd.prog.globals[2]?).map (·.type) = some 116 := by kernel_rfl
theorem gS : Tryd.prog.globalNamed "strconv.ErrSyntax" = some 4 := by kernel_rfl
theorem gSType : (Tryd.prog.globals[4]?).map (·.type) = some 78 := by kernel_rfl
theorem gR : Tryd.prog.globalNamed "strconv.ErrRange" = some 5 := by kernel_rfl
theorem gRType : (Tryd.prog.globals[5]?).map (·.type) = some 78 := by kernel_rfl
theorem starE : "*" ++ "errors.errorString" = "*errors.errorString" := by decide
theorem rowE (u : TypeId) (h : Tryd.prog.typeName? 3 u = some "*errors.errorString") : u = 135 :=
  typeName_ptr_named (nm := "errors.errorString") (by rw [starE]; kernel_rfl) (by kernel_rfl) (by decide) u (by rw [starE]; exact h)
theorem cellsE : Tryd.prog.cellsOf 137 = 1 := by kernel_rfl
theorem noHandle {w : World} (h : laidMetH Tryd.prog Rows.unitLookupRow.laid w) : laidMet Tryd.prog Rows.unitLookupRow.laid w := by
  rw [MakeChecks.laidMetH_plain _ _ _ (by kernel_rfl)] at h
  exact h
theorem tab_of_laid {W : World} (h : laidMetH Tryd.prog Rows.unitLookupRow.laid W) (hs : W.ShapedOpen Tryd.prog) : Tab W := by
  have h0 : laidMet Tryd.prog Rows.unitLookupRow.laid W := noHandle h
  unfold Rows.unitLookupRow at h0
  have h2 := h0.tail.tail
  have h4 := h2.tail.tail
  have h5 := h4.tail
  have h6 := h5.tail
  have h7 := h6.tail
  obtain ⟨a0, s0, hv0, -, -, -⟩ := laid_sentinel h4 gR gRType Tryd.underlying78 rowE Tryd.underlying135 Tryd.underlying137 rfl rfl Tryd.underlying9 cellsE cellsS
  obtain ⟨a1, s1, hv1, -, -, -⟩ := laid_sentinel h5 gS gSType Tryd.underlying78 rowE Tryd.underlying135 Tryd.underlying137 rfl rfl Tryd.underlying9 cellsE cellsS
  exact ⟨units_of h7, bases_of h6, Lib.tabIs_of_head gP gPType Tryd.underlying116 Tryd.underlying99 (by kernel_rfl) (by kernel_rfl) h2, ⟨_, _, by have h0 := World.var?_cell gS hv1 0; simpa using h0⟩, ⟨_, _, by have h0 := World.var?_cell gR hv0 0; simpa using h0⟩, Tryd.laysM145.s1_3 W hs⟩
theorem cell_lt0 {w : World} {g i : Nat} {v : Value} (h : w.cell? ⟨g, i, none⟩ = some v) : g < w.heap.size := cell_lt (a := ⟨g, i, none⟩) h
theorem Tab.pos {w : World} (h : Tab w) : 5 < w.heap.size := by obtain ⟨te, pe, h⟩ := h.rang; exact cell_lt0 h
theorem Tab.below {w w' : World} (h : Tab w) (hb : Below w.heap.size w w') : Tab w' := by
  have hp := h.pos
  have hc : ∀ g i, g < 6 → w'.cell? ⟨g, i, none⟩ = w.cell? ⟨g, i, none⟩ := fun g i hg => hb.cell (p := ⟨g, i, none⟩) (by show g < _; omega)
  refine ⟨fun i hi => ?_, fun i hi => ?_, ?_, ?_, ?_, ?_⟩
  · rw [hc _ _ (by omega)]; exact h.units i hi
  · rw [hc _ _ (by omega)]; exact h.bases i hi
  · have := h.pow
    unfold Lib.TabIs at *
    rw [← this]
    unfold World.var?
    rw [gP]
    have hb2 := hb.block 2 (by omega)
    simp only [Option.bind_some, hb2]
  · simp only [hc _ _ (show 4 < 6 by omega)]; exact h.synt
  · simp only [hc _ _ (show 5 < 6 by omega)]; exact h.rang
  · simp only [hc _ _ (show 3 < 6 by omega)]; exact h.maxl

/-! ### A world for the witness -/
noncomputable def laidWorld (os : Os) : World := World.laidAll Tryd.prog os Rows.unitLookupRow.laid
theorem laid_os (os : Os) : (laidWorld os).os = os := World.laidAll_os _ _ _
theorem laid_met (os : Os) (args : Array Value) : laidMet Tryd.prog Rows.unitLookupRow.laid ((laidWorld os).forCall (fun _ _ => 0) ⟨#[], args, []⟩).memory :=
  laidMet_laidAll _ (by kernel_rfl) (by kernel_rfl)
theorem witness_sh {HH : Type} {enc : TypeId × Value → HH} {C : Checked} {os : Os} {f : FuncId} {fn : Func} {s : OpenSpec} {conds : List PathCond} {apart : Bool} {laid : List (String × DataW Unit)} (modest : Bool) (w0 : World) (args : Array Value) (hos : w0.os = os)
    (hsh : (w0.forCall (fun _ _ => 0) ⟨#[], args, []⟩).Shaped C.prog)
    (hok : Input.okWideB C.prog (w0.forCall (fun _ _ => 0) ⟨#[], args, []⟩) f ⟨#[], args, []⟩ = true)
    (hrow : s.preRow enc C.prog fn conds apart laid (w0.forCall (fun _ _ => 0) ⟨#[], args, []⟩).memory args) :
    ∃ (w : World) (tape : Tape) (i : Input), w.os = os ∧ (w.forCall tape i).Shaped C.prog ∧ i.vars = [] ∧ Input.okWide C.prog (w.forCall tape i) .any w.heap.size f i ∧
      s.preRow enc C.prog fn conds apart laid (w.forCall tape i).memory i.args ∧ ({ modest := modest } : Assume).holds C.prog (lone (Frame.enter C.prog f i.args .normal) [] (w.forCall tape i)) :=
  ⟨w0, fun _ _ => 0, ⟨#[], args, []⟩, hos, hsh, (Input.okWide_of_okWideB (base := 0) hok).1, (Input.okWide_of_okWideB hok).2, hrow, by
    simp only [Assume.holds]
    exact ⟨by simp, by simp, fun _ => Modest.zero, by simp, by simp⟩⟩
end U
end Go.Proofs.YthcehhonahgfmaaDoor
