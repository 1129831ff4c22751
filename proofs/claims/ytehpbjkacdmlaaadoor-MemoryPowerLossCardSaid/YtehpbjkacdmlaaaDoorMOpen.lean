/-
  How slices of structs of the laws are opened (written by gen_struct.py).
-/
import Derived.Test.YtehpbjkacdmlaaaDoorOpen
namespace Go.Proofs.YtehpbjkacdmlaaaDoor
open Go.ChangeShapes Go.WideShapes Go.ChangeAt Go.RowKit Go.Deep
namespace M
open H
set_option linter.unusedVariables false
theorem pick_all {α : Type} {P : Nat → α → Prop} : ∀ n, (∀ i, i < n → ∃ x, P i x) → ∃ xs : List α, xs.length = n ∧ ∀ i x, xs[i]? = some x → P i x
  | 0, _ => ⟨[], rfl, by simp⟩
  | n + 1, h => by
    obtain ⟨xs, hl, hx⟩ := pick_all n fun i hi => h i (by omega)
    obtain ⟨x, hp⟩ := h n (by omega)
    refine ⟨xs ++ [x], by simp [hl], fun i y hy => ?_⟩
    rcases Nat.lt_or_ge i n with hi | hi
    · rw [List.getElem?_append_left (by omega)] at hy
      exact hx i y hy
    · rw [List.getElem?_append_right (by omega)] at hy
      have hlt := (List.getElem?_eq_some_iff.1 hy).1
      simp only [List.length_cons, List.length_nil] at hlt
      obtain rfl : i = n := by omega
      rw [hl, Nat.sub_self] at hy
      simp only [List.getElem?_cons_zero, Option.some.injEq] at hy
      rw [← hy]
      exact hp
theorem int_fits {k : IntKind} {lo hi a : Int} (h : (Lit.int k a).wf = true) (e : k.min = lo ∧ k.max = hi) : lo ≤ a ∧ a ≤ hi := by
  simp [Lit.wf] at h
  rw [← e.1, ← e.2]
  exact h
structure Ev where
  a : Nat
  bit : Nat
  flip : Bool
  w : Nat
structure Ev.Ok (x : Ev) : Prop where
  a : x.a < 256
  bit : x.bit < 256
  w : x.w < 4294967296
/-- The cells of one. -/
structure RdEv (w : World) (ad : Addr) (x : Ev) : Prop where
  c0 : w.cell? ad = some (.int .u8 ((x.a : Nat) : Int))
  c1 : w.cell? ⟨ad.block, ad.off + 1, none⟩ = some (.int .u8 ((x.bit : Nat) : Int))
  c2 : w.cell? ⟨ad.block, ad.off + 2, none⟩ = some (.bool x.flip)
  c3 : w.cell? ⟨ad.block, ad.off + 3, none⟩ = some (.int .u32 ((x.w : Nat) : Int))
/-- The slice at A holds the elements xs. -/
def RdsEv (w : World) (B : Nat) (A : Option Addr) (xs : List Ev) : Prop := ∀ j x, xs[j]? = some x → ∃ ad, A = some ad ∧ ad.block < B ∧ RdEv w (ad.add (j * 4)) x
theorem RdsEv.below {w w' : World} {B : Nat} {A : Option Addr} {xs : List Ev} (h : RdsEv w B A xs) (hb : Below B w w') : RdsEv w' B A xs := fun j x hx => by
  obtain ⟨ad, e, ha, hr⟩ := h j x hx
  have hlt : (ad.add (j * 4)).block < B := by rw [add_block]; exact ha
  exact ⟨ad, e, ha, (hb.cell (p := ad.add (j * 4)) hlt).trans hr.c0, (hb.cell (p := ⟨(ad.add (j * 4)).block, (ad.add (j * 4)).off + 1, none⟩) hlt).trans hr.c1, (hb.cell (p := ⟨(ad.add (j * 4)).block, (ad.add (j * 4)).off + 2, none⟩) hlt).trans hr.c2, (hb.cell (p := ⟨(ad.add (j * 4)).block, (ad.add (j * 4)).off + 3, none⟩) hlt).trans hr.c3⟩
theorem one_Ev {HH : Type} {enc : TypeId × Value → HH} {W : World} {fuel : Nat} {cs : List Value} {x : DataW HH × List MemPlace} {ad : Addr}
    (hcs : W.cells? 0 ad 4 = some cs) (h : DataW.trod enc Tryd.prog W 0 (fun _ => true) true fuel 43 cs = some x) : ∃ x : Ev, x.Ok ∧ RdEv W ad x := by
  obtain ⟨xs, n, _, hx, _, hlen, hf⟩ := DataW.trod_struct Tryd.underlying43 h
  obtain ⟨_, hl, hat⟩ := World.cells?_some hcs
  match cs, hl with
  | [v0, v1, v2, v3], _ =>
    match xs, hlen with
    | [y0, y1, y2, y3], _ =>
      have f0 : DataW.trod enc Tryd.prog W 0 (fun _ => true) true n 5 [v0] = some y0 := by
        have h : DataW.trod enc Tryd.prog W 0 (fun _ => true) true n 5 (([v0, v1, v2, v3].drop 0).take (Tryd.prog.cellsOf 5)) = some y0 := hf 0 _ rfl
        rw [show Tryd.prog.cellsOf 5 = 1 by kernel_rfl] at h
        exact h
      have f1 : DataW.trod enc Tryd.prog W 0 (fun _ => true) true n 5 [v1] = some y1 := by
        have h : DataW.trod enc Tryd.prog W 0 (fun _ => true) true n 5 (([v0, v1, v2, v3].drop 1).take (Tryd.prog.cellsOf 5)) = some y1 := hf 1 _ rfl
        rw [show Tryd.prog.cellsOf 5 = 1 by kernel_rfl] at h
        exact h
      have f2 : DataW.trod enc Tryd.prog W 0 (fun _ => true) true n 4 [v2] = some y2 := by
        have h : DataW.trod enc Tryd.prog W 0 (fun _ => true) true n 4 (([v0, v1, v2, v3].drop 2).take (Tryd.prog.cellsOf 4)) = some y2 := hf 2 _ rfl
        rw [show Tryd.prog.cellsOf 4 = 1 by kernel_rfl] at h
        exact h
      have f3 : DataW.trod enc Tryd.prog W 0 (fun _ => true) true n 33 [v3] = some y3 := by
        have h : DataW.trod enc Tryd.prog W 0 (fun _ => true) true n 33 (([v0, v1, v2, v3].drop 3).take (Tryd.prog.cellsOf 33)) = some y3 := hf 3 _ rfl
        rw [show Tryd.prog.cellsOf 33 = 1 by kernel_rfl] at h
        exact h
      obtain ⟨a0, e0, _, w0⟩ := DataW.trod_int Tryd.underlying5 f0
      obtain ⟨a1, e1, _, w1⟩ := DataW.trod_int Tryd.underlying5 f1
      obtain ⟨a2, e2, _⟩ := DataW.trod_bool Tryd.underlying4 f2
      obtain ⟨a3, e3, _, w3⟩ := DataW.trod_int Tryd.underlying33 f3
      simp only [List.cons.injEq, and_true] at e0 e1 e2 e3
      subst e0 e1 e2 e3
      have c0 := hat 0 (by decide)
      have c1 := hat 1 (by decide)
      have c2 := hat 2 (by decide)
      have c3 := hat 3 (by decide)
      have a0' : ad.add 0 = ad := by simp [Addr.add]
      rw [a0'] at c0
      have a1' : ad.add 1 = ⟨ad.block, ad.off + 1, none⟩ := by unfold Addr.add; rw [if_neg (by decide)]
      rw [a1'] at c1
      have a2' : ad.add 2 = ⟨ad.block, ad.off + 2, none⟩ := by unfold Addr.add; rw [if_neg (by decide)]
      rw [a2'] at c2
      have a3' : ad.add 3 = ⟨ad.block, ad.off + 3, none⟩ := by unfold Addr.add; rw [if_neg (by decide)]
      rw [a3'] at c3
      have b0 := int_fits (lo := 0) (hi := 255) w0 (by decide)
      obtain ⟨m0, rfl⟩ : ∃ m : Nat, a0 = m := ⟨a0.toNat, by omega⟩
      have b1 := int_fits (lo := 0) (hi := 255) w1 (by decide)
      obtain ⟨m1, rfl⟩ : ∃ m : Nat, a1 = m := ⟨a1.toNat, by omega⟩
      have b3 := int_fits (lo := 0) (hi := 4294967295) w3 (by decide)
      obtain ⟨m3, rfl⟩ : ∃ m : Nat, a3 = m := ⟨a3.toNat, by omega⟩
      exact ⟨⟨m0, m1, a2, m3⟩, ⟨by show m0 < _; omega, by show m1 < _; omega, by show m3 < _; omega⟩, ⟨c0, c1, c2, c3⟩⟩
/-- An argument. -/
theorem open_Evs {HH : Type} {enc : TypeId × Value → HH} {W : World} {a : Option Addr} {len cap : Nat} {d : DataW HH} {p : List MemPlace}
    (h : DataW.Trod enc Tryd.prog W 0 (fun _ => true) true 38 (.slice a len cap) d p) :
    ∃ xs : List Ev, xs.length = len ∧ len ≤ cap ∧ cap ≤ maxLen ∧ (a = none → cap = 0) ∧ RdsEv W W.heap.size a xs ∧ (∀ x ∈ xs, x.Ok) := by
  obtain ⟨fuel, hf⟩ := h
  rcases open_slice Tryd.underlying38 hf with ⟨hcs, hx⟩ | ⟨a', l, c, m, n, D, Pl, hcs, hb, hl, hm, hmm, hx, hi⟩
  · simp [Value.cells] at hcs
    obtain ⟨rfl, rfl, rfl⟩ := hcs
    exact ⟨[], rfl, Nat.le_refl _, Nat.zero_le _, fun _ => rfl, fun j x hx => by simp at hx, by simp⟩
  · simp [Value.cells] at hcs
    obtain ⟨rfl, rfl, rfl⟩ := hcs
    have hmc : m = cap := by simpa using hmm
    subst hmc
    obtain ⟨xs, hxl, hxs⟩ := pick_all (P := fun i x => x.Ok ∧ RdEv W (a'.add (i * 4)) x) len fun i hil => by
      obtain ⟨cs', hc, ht⟩ := hi i (by omega)
      rw [show Tryd.prog.cellsOf 43 = 4 by kernel_rfl] at hc
      exact one_Ev hc ht
    refine ⟨xs, hxl, hl, hm, (by intro h; cases h), fun j x hx => ?_, fun x hx => ?_⟩
    · have h1 := (hxs j x hx).2
      have h2 := cell_lt h1.c0
      rw [add_block] at h2
      exact ⟨a', rfl, h2, h1⟩
    · obtain ⟨j, hj⟩ := List.mem_iff_getElem?.1 hx
      exact (hxs j x hj).1
structure Opn where
  kind : Int
  a : Int
  n : Int
  w : Nat
structure Opn.Ok (x : Opn) : Prop where
  kind : -9223372036854775808 ≤ x.kind ∧ x.kind ≤ 9223372036854775807
  a : -9223372036854775808 ≤ x.a ∧ x.a ≤ 9223372036854775807
  n : -9223372036854775808 ≤ x.n ∧ x.n ≤ 9223372036854775807
  w : x.w < 4294967296
/-- The cells of one. -/
structure RdOpn (w : World) (ad : Addr) (x : Opn) : Prop where
  c0 : w.cell? ad = some (.int .i64 x.kind)
  c1 : w.cell? ⟨ad.block, ad.off + 1, none⟩ = some (.int .i64 x.a)
  c2 : w.cell? ⟨ad.block, ad.off + 2, none⟩ = some (.int .i64 x.n)
  c3 : w.cell? ⟨ad.block, ad.off + 3, none⟩ = some (.int .u32 ((x.w : Nat) : Int))
/-- The slice at A holds the elements xs. -/
def RdsOpn (w : World) (B : Nat) (A : Option Addr) (xs : List Opn) : Prop := ∀ j x, xs[j]? = some x → ∃ ad, A = some ad ∧ ad.block < B ∧ RdOpn w (ad.add (j * 4)) x
theorem RdsOpn.below {w w' : World} {B : Nat} {A : Option Addr} {xs : List Opn} (h : RdsOpn w B A xs) (hb : Below B w w') : RdsOpn w' B A xs := fun j x hx => by
  obtain ⟨ad, e, ha, hr⟩ := h j x hx
  have hlt : (ad.add (j * 4)).block < B := by rw [add_block]; exact ha
  exact ⟨ad, e, ha, (hb.cell (p := ad.add (j * 4)) hlt).trans hr.c0, (hb.cell (p := ⟨(ad.add (j * 4)).block, (ad.add (j * 4)).off + 1, none⟩) hlt).trans hr.c1, (hb.cell (p := ⟨(ad.add (j * 4)).block, (ad.add (j * 4)).off + 2, none⟩) hlt).trans hr.c2, (hb.cell (p := ⟨(ad.add (j * 4)).block, (ad.add (j * 4)).off + 3, none⟩) hlt).trans hr.c3⟩
theorem one_Opn {HH : Type} {enc : TypeId × Value → HH} {W : World} {fuel : Nat} {cs : List Value} {x : DataW HH × List MemPlace} {ad : Addr}
    (hcs : W.cells? 0 ad 4 = some cs) (h : DataW.trod enc Tryd.prog W 0 (fun _ => true) true fuel 35 cs = some x) : ∃ x : Opn, x.Ok ∧ RdOpn W ad x := by
  obtain ⟨xs, n, _, hx, _, hlen, hf⟩ := DataW.trod_struct Tryd.underlying35 h
  obtain ⟨_, hl, hat⟩ := World.cells?_some hcs
  match cs, hl with
  | [v0, v1, v2, v3], _ =>
    match xs, hlen with
    | [y0, y1, y2, y3], _ =>
      have f0 : DataW.trod enc Tryd.prog W 0 (fun _ => true) true n 3 [v0] = some y0 := by
        have h : DataW.trod enc Tryd.prog W 0 (fun _ => true) true n 3 (([v0, v1, v2, v3].drop 0).take (Tryd.prog.cellsOf 3)) = some y0 := hf 0 _ rfl
        rw [show Tryd.prog.cellsOf 3 = 1 by kernel_rfl] at h
        exact h
      have f1 : DataW.trod enc Tryd.prog W 0 (fun _ => true) true n 3 [v1] = some y1 := by
        have h : DataW.trod enc Tryd.prog W 0 (fun _ => true) true n 3 (([v0, v1, v2, v3].drop 1).take (Tryd.prog.cellsOf 3)) = some y1 := hf 1 _ rfl
        rw [show Tryd.prog.cellsOf 3 = 1 by kernel_rfl] at h
        exact h
      have f2 : DataW.trod enc Tryd.prog W 0 (fun _ => true) true n 3 [v2] = some y2 := by
        have h : DataW.trod enc Tryd.prog W 0 (fun _ => true) true n 3 (([v0, v1, v2, v3].drop 2).take (Tryd.prog.cellsOf 3)) = some y2 := hf 2 _ rfl
        rw [show Tryd.prog.cellsOf 3 = 1 by kernel_rfl] at h
        exact h
      have f3 : DataW.trod enc Tryd.prog W 0 (fun _ => true) true n 33 [v3] = some y3 := by
        have h : DataW.trod enc Tryd.prog W 0 (fun _ => true) true n 33 (([v0, v1, v2, v3].drop 3).take (Tryd.prog.cellsOf 33)) = some y3 := hf 3 _ rfl
        rw [show Tryd.prog.cellsOf 33 = 1 by kernel_rfl] at h
        exact h
      obtain ⟨a0, e0, _, w0⟩ := DataW.trod_int Tryd.underlying3 f0
      obtain ⟨a1, e1, _, w1⟩ := DataW.trod_int Tryd.underlying3 f1
      obtain ⟨a2, e2, _, w2⟩ := DataW.trod_int Tryd.underlying3 f2
      obtain ⟨a3, e3, _, w3⟩ := DataW.trod_int Tryd.underlying33 f3
      simp only [List.cons.injEq, and_true] at e0 e1 e2 e3
      subst e0 e1 e2 e3
      have c0 := hat 0 (by decide)
      have c1 := hat 1 (by decide)
      have c2 := hat 2 (by decide)
      have c3 := hat 3 (by decide)
      have a0' : ad.add 0 = ad := by simp [Addr.add]
      rw [a0'] at c0
      have a1' : ad.add 1 = ⟨ad.block, ad.off + 1, none⟩ := by unfold Addr.add; rw [if_neg (by decide)]
      rw [a1'] at c1
      have a2' : ad.add 2 = ⟨ad.block, ad.off + 2, none⟩ := by unfold Addr.add; rw [if_neg (by decide)]
      rw [a2'] at c2
      have a3' : ad.add 3 = ⟨ad.block, ad.off + 3, none⟩ := by unfold Addr.add; rw [if_neg (by decide)]
      rw [a3'] at c3
      have b0 := int_fits (lo := -9223372036854775808) (hi := 9223372036854775807) w0 (by decide)
      have b1 := int_fits (lo := -9223372036854775808) (hi := 9223372036854775807) w1 (by decide)
      have b2 := int_fits (lo := -9223372036854775808) (hi := 9223372036854775807) w2 (by decide)
      have b3 := int_fits (lo := 0) (hi := 4294967295) w3 (by decide)
      obtain ⟨m3, rfl⟩ : ∃ m : Nat, a3 = m := ⟨a3.toNat, by omega⟩
      exact ⟨⟨a0, a1, a2, m3⟩, ⟨b0, b1, b2, by show m3 < _; omega⟩, ⟨c0, c1, c2, c3⟩⟩
/-- An argument. -/
theorem open_Opns {HH : Type} {enc : TypeId × Value → HH} {W : World} {a : Option Addr} {len cap : Nat} {d : DataW HH} {p : List MemPlace}
    (h : DataW.Trod enc Tryd.prog W 0 (fun _ => true) true 22 (.slice a len cap) d p) :
    ∃ xs : List Opn, xs.length = len ∧ len ≤ cap ∧ cap ≤ maxLen ∧ (a = none → cap = 0) ∧ RdsOpn W W.heap.size a xs ∧ (∀ x ∈ xs, x.Ok) := by
  obtain ⟨fuel, hf⟩ := h
  rcases open_slice Tryd.underlying22 hf with ⟨hcs, hx⟩ | ⟨a', l, c, m, n, D, Pl, hcs, hb, hl, hm, hmm, hx, hi⟩
  · simp [Value.cells] at hcs
    obtain ⟨rfl, rfl, rfl⟩ := hcs
    exact ⟨[], rfl, Nat.le_refl _, Nat.zero_le _, fun _ => rfl, fun j x hx => by simp at hx, by simp⟩
  · simp [Value.cells] at hcs
    obtain ⟨rfl, rfl, rfl⟩ := hcs
    have hmc : m = cap := by simpa using hmm
    subst hmc
    obtain ⟨xs, hxl, hxs⟩ := pick_all (P := fun i x => x.Ok ∧ RdOpn W (a'.add (i * 4)) x) len fun i hil => by
      obtain ⟨cs', hc, ht⟩ := hi i (by omega)
      rw [show Tryd.prog.cellsOf 35 = 4 by kernel_rfl] at hc
      exact one_Opn hc ht
    refine ⟨xs, hxl, hl, hm, (by intro h; cases h), fun j x hx => ?_, fun x hx => ?_⟩
    · have h1 := (hxs j x hx).2
      have h2 := cell_lt h1.c0
      rw [add_block] at h2
      exact ⟨a', rfl, h2, h1⟩
    · obtain ⟨j, hj⟩ := List.mem_iff_getElem?.1 hx
      exact (hxs j x hj).1
end M
end Go.Proofs.YtehpbjkacdmlaaaDoor
