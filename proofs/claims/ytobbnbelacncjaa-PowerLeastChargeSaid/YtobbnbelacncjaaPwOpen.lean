/-
  How slices of structs of the laws are opened (written by gen_struct.py).
-/
import Derived.Test.YtobbnbelacncjaaOpen
namespace Go.Proofs.Ytobbnbelacncjaa
open Go.ChangeShapes Go.WideShapes Go.ChangeAt Go.RowKit Go.Deep
namespace Pw
open H
set_option linter.unusedVariables false
set_option maxRecDepth 100000
theorem pick_all {α : Type} {P : Nat → α → Prop} : ∀ n, (∀ i, i < n → ∃ x, P i x) → ∃ xs : List α, xs.length = n ∧ ∀ i x, xs[i]? = some x → P i x
  | 0, _ => ⟨[], rfl, by simp⟩
  | n + 1, h => by
    obtain ⟨xs, hl, hx⟩ := pick_all n fun i hi => h i (by omega)
    obtain ⟨x, hp⟩ := h n (by omega)
    refine ⟨xs ++ [x], by simp [hl], fun i y hy => ?_⟩
    rcases Nat.lt_or_ge i n with hi | hi
    · rw [List.getElem?_append_left (by omega)] at hy
      exact hx i y hy
    · rw [List.getElem?_append_right (by omega)] at hy
      have hlt := (List.getElem?_eq_some_iff.1 hy).1
      simp only [List.length_cons, List.length_nil] at hlt
      obtain rfl : i = n := by omega
      rw [hl, Nat.sub_self] at hy
      simp only [List.getElem?_cons_zero, Option.some.injEq] at hy
      rw [← hy]
      exact hp
theorem int_fits {k : IntKind} {lo hi a : Int} (h : (Lit.int k a).wf = true) (e : k.min = lo ∧ k.max = hi) : lo ≤ a ∧ a ≤ hi := by
  simp [Lit.wf] at h
  rw [← e.1, ← e.2]
  exact h
structure Ld where
  id : Int
  pow : Int
  pri : Int
  ess : Bool
structure Ld.Ok (x : Ld) : Prop where
  id : -9223372036854775808 ≤ x.id ∧ x.id ≤ 9223372036854775807
  pow : -9223372036854775808 ≤ x.pow ∧ x.pow ≤ 9223372036854775807
  pri : -9223372036854775808 ≤ x.pri ∧ x.pri ≤ 9223372036854775807
/-- The cells of one. -/
structure RdLd (w : World) (ad : Addr) (x : Ld) : Prop where
  c0 : w.cell? ad = some (.int .i64 x.id)
  c1 : w.cell? ⟨ad.block, ad.off + 1, none⟩ = some (.int .i64 x.pow)
  c2 : w.cell? ⟨ad.block, ad.off + 2, none⟩ = some (.int .i64 x.pri)
  c3 : w.cell? ⟨ad.block, ad.off + 3, none⟩ = some (.bool x.ess)
/-- The slice at A holds the elements xs. -/
def RdsLd (w : World) (B : Nat) (A : Option Addr) (xs : List Ld) : Prop := ∀ j x, xs[j]? = some x → ∃ ad, A = some ad ∧ ad.block < B ∧ RdLd w (ad.add (j * 4)) x
theorem RdsLd.below {w w' : World} {B : Nat} {A : Option Addr} {xs : List Ld} (h : RdsLd w B A xs) (hb : Below B w w') : RdsLd w' B A xs := fun j x hx => by
  obtain ⟨ad, e, ha, hr⟩ := h j x hx
  have hlt : (ad.add (j * 4)).block < B := by rw [add_block]; exact ha
  exact ⟨ad, e, ha, (hb.cell (p := ad.add (j * 4)) hlt).trans hr.c0, (hb.cell (p := ⟨(ad.add (j * 4)).block, (ad.add (j * 4)).off + 1, none⟩) hlt).trans hr.c1, (hb.cell (p := ⟨(ad.add (j * 4)).block, (ad.add (j * 4)).off + 2, none⟩) hlt).trans hr.c2, (hb.cell (p := ⟨(ad.add (j * 4)).block, (ad.add (j * 4)).off + 3, none⟩) hlt).trans hr.c3⟩
theorem one_Ld {HH : Type} {enc : TypeId × Value → HH} {W : World} {fuel : Nat} {cs : List Value} {x : DataW HH × List MemPlace} {ad : Addr}
    (hcs : W.cells? 0 ad 4 = some cs) (h : DataW.trod enc Try.prog W 0 (fun _ => true) true fuel 41 cs = some x) : ∃ x : Ld, x.Ok ∧ RdLd W ad x := by
  obtain ⟨xs, n, _, hx, _, hlen, hf⟩ := DataW.trod_struct Try.underlying41 h
  obtain ⟨_, hl, hat⟩ := World.cells?_some hcs
  match cs, hl with
  | [v0, v1, v2, v3], _ =>
    match xs, hlen with
    | [y0, y1, y2, y3], _ =>
      have f0 : DataW.trod enc Try.prog W 0 (fun _ => true) true n 3 [v0] = some y0 := by
        have h : DataW.trod enc Try.prog W 0 (fun _ => true) true n 3 (([v0, v1, v2, v3].drop 0).take (Try.prog.cellsOf 3)) = some y0 := hf 0 _ rfl
        rw [show Try.prog.cellsOf 3 = 1 by kernel_rfl] at h
        exact h
      have f1 : DataW.trod enc Try.prog W 0 (fun _ => true) true n 3 [v1] = some y1 := by
        have h : DataW.trod enc Try.prog W 0 (fun _ => true) true n 3 (([v0, v1, v2, v3].drop 1).take (Try.prog.cellsOf 3)) = some y1 := hf 1 _ rfl
        rw [show Try.prog.cellsOf 3 = 1 by kernel_rfl] at h
        exact h
      have f2 : DataW.trod enc Try.prog W 0 (fun _ => true) true n 3 [v2] = some y2 := by
        have h : DataW.trod enc Try.prog W 0 (fun _ => true) true n 3 (([v0, v1, v2, v3].drop 2).take (Try.prog.cellsOf 3)) = some y2 := hf 2 _ rfl
        rw [show Try.prog.cellsOf 3 = 1 by kernel_rfl] at h
        exact h
      have f3 : DataW.trod enc Try.prog W 0 (fun _ => true) true n 4 [v3] = some y3 := by
        have h : DataW.trod enc Try.prog W 0 (fun _ => true) true n 4 (([v0, v1, v2, v3].drop 3).take (Try.prog.cellsOf 4)) = some y3 := hf 3 _ rfl
        rw [show Try.prog.cellsOf 4 = 1 by kernel_rfl] at h
        exact h
      obtain ⟨a0, e0, _, w0⟩ := DataW.trod_int Try.underlying3 f0
      obtain ⟨a1, e1, _, w1⟩ := DataW.trod_int Try.underlying3 f1
      obtain ⟨a2, e2, _, w2⟩ := DataW.trod_int Try.underlying3 f2
      obtain ⟨a3, e3, _⟩ := DataW.trod_bool Try.underlying4 f3
      simp only [List.cons.injEq, and_true] at e0 e1 e2 e3
      subst e0 e1 e2 e3
      have c0 := hat 0 (by decide)
      have c1 := hat 1 (by decide)
      have c2 := hat 2 (by decide)
      have c3 := hat 3 (by decide)
      have a0' : ad.add 0 = ad := by simp [Addr.add]
      rw [a0'] at c0
      have a1' : ad.add 1 = ⟨ad.block, ad.off + 1, none⟩ := by unfold Addr.add; rw [if_neg (by decide)]
      rw [a1'] at c1
      have a2' : ad.add 2 = ⟨ad.block, ad.off + 2, none⟩ := by unfold Addr.add; rw [if_neg (by decide)]
      rw [a2'] at c2
      have a3' : ad.add 3 = ⟨ad.block, ad.off + 3, none⟩ := by unfold Addr.add; rw [if_neg (by decide)]
      rw [a3'] at c3
      have b0 := int_fits (lo := -9223372036854775808) (hi := 9223372036854775807) w0 (by decide)
      have b1 := int_fits (lo := -9223372036854775808) (hi := 9223372036854775807) w1 (by decide)
      have b2 := int_fits (lo := -9223372036854775808) (hi := 9223372036854775807) w2 (by decide)
      exact ⟨⟨a0, a1, a2, a3⟩, ⟨b0, b1, b2⟩, ⟨c0, c1, c2, c3⟩⟩
/-- An argument. -/
theorem open_Lds {HH : Type} {enc : TypeId × Value → HH} {W : World} {a : Option Addr} {len cap : Nat} {d : DataW HH} {p : List MemPlace}
    (h : DataW.Trod enc Try.prog W 0 (fun _ => true) true 24 (.slice a len cap) d p) :
    ∃ xs : List Ld, xs.length = len ∧ len ≤ cap ∧ cap ≤ maxLen ∧ (a = none → cap = 0) ∧ RdsLd W W.heap.size a xs ∧ (∀ x ∈ xs, x.Ok) := by
  obtain ⟨fuel, hf⟩ := h
  rcases open_slice Try.underlying24 hf with ⟨hcs, hx⟩ | ⟨a', l, c, m, n, D, Pl, hcs, hb, hl, hm, hmm, hx, hi⟩
  · simp [Value.cells] at hcs
    obtain ⟨rfl, rfl, rfl⟩ := hcs
    exact ⟨[], rfl, Nat.le_refl _, Nat.zero_le _, fun _ => rfl, fun j x hx => by simp at hx, by simp⟩
  · simp [Value.cells] at hcs
    obtain ⟨rfl, rfl, rfl⟩ := hcs
    have hmc : m = cap := by simpa using hmm
    subst hmc
    obtain ⟨xs, hxl, hxs⟩ := pick_all (P := fun i x => x.Ok ∧ RdLd W (a'.add (i * 4)) x) len fun i hil => by
      obtain ⟨cs', hc, ht⟩ := hi i (by omega)
      rw [show Try.prog.cellsOf 41 = 4 by kernel_rfl] at hc
      exact one_Ld hc ht
    refine ⟨xs, hxl, hl, hm, (by intro h; cases h), fun j x hx => ?_, fun x hx => ?_⟩
    · have h1 := (hxs j x hx).2
      have h2 := cell_lt h1.c0
      rw [add_block] at h2
      exact ⟨a', rfl, h2, h1⟩
    · obtain ⟨j, hj⟩ := List.mem_iff_getElem?.1 hx
      exact (hxs j x hj).1
end Pw
end Go.Proofs.Ytobbnbelacncjaa
