/-
  How slices of structs of the laws are opened (written by gen_struct.py).
-/
import Derived.Test.YtobbnbelacncjaaOpen
namespace Go.Proofs.Ytobbnbelacncjaa
open Go.ChangeShapes Go.WideShapes Go.ChangeAt Go.RowKit Go.Deep
namespace Q
open H
set_option linter.unusedVariables false
set_option maxRecDepth 100000
theorem pick_all {α : Type} {P : Nat → α → Prop} : ∀ n, (∀ i, i < n → ∃ x, P i x) → ∃ xs : List α, xs.length = n ∧ ∀ i x, xs[i]? = some x → P i x
  | 0, _ => ⟨[], rfl, by simp⟩
  | n + 1, h => by
    obtain ⟨xs, hl, hx⟩ := pick_all n fun i hi => h i (by omega)
    obtain ⟨x, hp⟩ := h n (by omega)
    refine ⟨xs ++ [x], by simp [hl], fun i y hy => ?_⟩
    rcases Nat.lt_or_ge i n with hi | hi
    · rw [List.getElem?_append_left (by omega)] at hy
      exact hx i y hy
    · rw [List.getElem?_append_right (by omega)] at hy
      have hlt := (List.getElem?_eq_some_iff.1 hy).1
      simp only [List.length_cons, List.length_nil] at hlt
      obtain rfl : i = n := by omega
      rw [hl, Nat.sub_self] at hy
      simp only [List.getElem?_cons_zero, Option.some.injEq] at hy
      rw [← hy]
      exact hp
theorem int_fits {k : IntKind} {lo hi a : Int} (h : (Lit.int k a).wf = true) (e : k.min = lo ∧ k.max = hi) : lo ≤ a ∧ a ≤ hi := by
  simp [Lit.wf] at h
  rw [← e.1, ← e.2]
  exact h
structure Wn where
  kind : Int
  a : Int
  b : Int
  fr : Int
  un : Int
  rate : Int
structure Wn.Ok (x : Wn) : Prop where
  kind : -9223372036854775808 ≤ x.kind ∧ x.kind ≤ 9223372036854775807
  a : -9223372036854775808 ≤ x.a ∧ x.a ≤ 9223372036854775807
  b : -9223372036854775808 ≤ x.b ∧ x.b ≤ 9223372036854775807
  fr : -9223372036854775808 ≤ x.fr ∧ x.fr ≤ 9223372036854775807
  un : -9223372036854775808 ≤ x.un ∧ x.un ≤ 9223372036854775807
  rate : -9223372036854775808 ≤ x.rate ∧ x.rate ≤ 9223372036854775807
/-- The cells of one. -/
structure RdWn (w : World) (ad : Addr) (x : Wn) : Prop where
  c0 : w.cell? ad = some (.int .i64 x.kind)
  c1 : w.cell? ⟨ad.block, ad.off + 1, none⟩ = some (.int .i64 x.a)
  c2 : w.cell? ⟨ad.block, ad.off + 2, none⟩ = some (.int .i64 x.b)
  c3 : w.cell? ⟨ad.block, ad.off + 3, none⟩ = some (.int .i64 x.fr)
  c4 : w.cell? ⟨ad.block, ad.off + 4, none⟩ = some (.int .i64 x.un)
  c5 : w.cell? ⟨ad.block, ad.off + 5, none⟩ = some (.int .i64 x.rate)
/-- The slice at A holds the elements xs. -/
def RdsWn (w : World) (B : Nat) (A : Option Addr) (xs : List Wn) : Prop := ∀ j x, xs[j]? = some x → ∃ ad, A = some ad ∧ ad.block < B ∧ RdWn w (ad.add (j * 6)) x
theorem RdsWn.below {w w' : World} {B : Nat} {A : Option Addr} {xs : List Wn} (h : RdsWn w B A xs) (hb : Below B w w') : RdsWn w' B A xs := fun j x hx => by
  obtain ⟨ad, e, ha, hr⟩ := h j x hx
  have hlt : (ad.add (j * 6)).block < B := by rw [add_block]; exact ha
  exact ⟨ad, e, ha, (hb.cell (p := ad.add (j * 6)) hlt).trans hr.c0, (hb.cell (p := ⟨(ad.add (j * 6)).block, (ad.add (j * 6)).off + 1, none⟩) hlt).trans hr.c1, (hb.cell (p := ⟨(ad.add (j * 6)).block, (ad.add (j * 6)).off + 2, none⟩) hlt).trans hr.c2, (hb.cell (p := ⟨(ad.add (j * 6)).block, (ad.add (j * 6)).off + 3, none⟩) hlt).trans hr.c3, (hb.cell (p := ⟨(ad.add (j * 6)).block, (ad.add (j * 6)).off + 4, none⟩) hlt).trans hr.c4, (hb.cell (p := ⟨(ad.add (j * 6)).block, (ad.add (j * 6)).off + 5, none⟩) hlt).trans hr.c5⟩
theorem one_Wn {HH : Type} {enc : TypeId × Value → HH} {W : World} {fuel : Nat} {cs : List Value} {x : DataW HH × List MemPlace} {ad : Addr}
    (hcs : W.cells? 0 ad 6 = some cs) (h : DataW.trod enc Try.prog W 0 (fun _ => true) true fuel 77 cs = some x) : ∃ x : Wn, x.Ok ∧ RdWn W ad x := by
  obtain ⟨xs, n, _, hx, _, hlen, hf⟩ := DataW.trod_struct Try.underlying77 h
  obtain ⟨_, hl, hat⟩ := World.cells?_some hcs
  match cs, hl with
  | [v0, v1, v2, v3, v4, v5], _ =>
    match xs, hlen with
    | [y0, y1, y2, y3, y4, y5], _ =>
      have f0 : DataW.trod enc Try.prog W 0 (fun _ => true) true n 3 [v0] = some y0 := by
        have h : DataW.trod enc Try.prog W 0 (fun _ => true) true n 3 (([v0, v1, v2, v3, v4, v5].drop 0).take (Try.prog.cellsOf 3)) = some y0 := hf 0 _ rfl
        rw [show Try.prog.cellsOf 3 = 1 by kernel_rfl] at h
        exact h
      have f1 : DataW.trod enc Try.prog W 0 (fun _ => true) true n 3 [v1] = some y1 := by
        have h : DataW.trod enc Try.prog W 0 (fun _ => true) true n 3 (([v0, v1, v2, v3, v4, v5].drop 1).take (Try.prog.cellsOf 3)) = some y1 := hf 1 _ rfl
        rw [show Try.prog.cellsOf 3 = 1 by kernel_rfl] at h
        exact h
      have f2 : DataW.trod enc Try.prog W 0 (fun _ => true) true n 3 [v2] = some y2 := by
        have h : DataW.trod enc Try.prog W 0 (fun _ => true) true n 3 (([v0, v1, v2, v3, v4, v5].drop 2).take (Try.prog.cellsOf 3)) = some y2 := hf 2 _ rfl
        rw [show Try.prog.cellsOf 3 = 1 by kernel_rfl] at h
        exact h
      have f3 : DataW.trod enc Try.prog W 0 (fun _ => true) true n 3 [v3] = some y3 := by
        have h : DataW.trod enc Try.prog W 0 (fun _ => true) true n 3 (([v0, v1, v2, v3, v4, v5].drop 3).take (Try.prog.cellsOf 3)) = some y3 := hf 3 _ rfl
        rw [show Try.prog.cellsOf 3 = 1 by kernel_rfl] at h
        exact h
      have f4 : DataW.trod enc Try.prog W 0 (fun _ => true) true n 3 [v4] = some y4 := by
        have h : DataW.trod enc Try.prog W 0 (fun _ => true) true n 3 (([v0, v1, v2, v3, v4, v5].drop 4).take (Try.prog.cellsOf 3)) = some y4 := hf 4 _ rfl
        rw [show Try.prog.cellsOf 3 = 1 by kernel_rfl] at h
        exact h
      have f5 : DataW.trod enc Try.prog W 0 (fun _ => true) true n 3 [v5] = some y5 := by
        have h : DataW.trod enc Try.prog W 0 (fun _ => true) true n 3 (([v0, v1, v2, v3, v4, v5].drop 5).take (Try.prog.cellsOf 3)) = some y5 := hf 5 _ rfl
        rw [show Try.prog.cellsOf 3 = 1 by kernel_rfl] at h
        exact h
      obtain ⟨a0, e0, _, w0⟩ := DataW.trod_int Try.underlying3 f0
      obtain ⟨a1, e1, _, w1⟩ := DataW.trod_int Try.underlying3 f1
      obtain ⟨a2, e2, _, w2⟩ := DataW.trod_int Try.underlying3 f2
      obtain ⟨a3, e3, _, w3⟩ := DataW.trod_int Try.underlying3 f3
      obtain ⟨a4, e4, _, w4⟩ := DataW.trod_int Try.underlying3 f4
      obtain ⟨a5, e5, _, w5⟩ := DataW.trod_int Try.underlying3 f5
      simp only [List.cons.injEq, and_true] at e0 e1 e2 e3 e4 e5
      subst e0 e1 e2 e3 e4 e5
      have c0 := hat 0 (by decide)
      have c1 := hat 1 (by decide)
      have c2 := hat 2 (by decide)
      have c3 := hat 3 (by decide)
      have c4 := hat 4 (by decide)
      have c5 := hat 5 (by decide)
      have a0' : ad.add 0 = ad := by simp [Addr.add]
      rw [a0'] at c0
      have a1' : ad.add 1 = ⟨ad.block, ad.off + 1, none⟩ := by unfold Addr.add; rw [if_neg (by decide)]
      rw [a1'] at c1
      have a2' : ad.add 2 = ⟨ad.block, ad.off + 2, none⟩ := by unfold Addr.add; rw [if_neg (by decide)]
      rw [a2'] at c2
      have a3' : ad.add 3 = ⟨ad.block, ad.off + 3, none⟩ := by unfold Addr.add; rw [if_neg (by decide)]
      rw [a3'] at c3
      have a4' : ad.add 4 = ⟨ad.block, ad.off + 4, none⟩ := by unfold Addr.add; rw [if_neg (by decide)]
      rw [a4'] at c4
      have a5' : ad.add 5 = ⟨ad.block, ad.off + 5, none⟩ := by unfold Addr.add; rw [if_neg (by decide)]
      rw [a5'] at c5
      have b0 := int_fits (lo := -9223372036854775808) (hi := 9223372036854775807) w0 (by decide)
      have b1 := int_fits (lo := -9223372036854775808) (hi := 9223372036854775807) w1 (by decide)
      have b2 := int_fits (lo := -9223372036854775808) (hi := 9223372036854775807) w2 (by decide)
      have b3 := int_fits (lo := -9223372036854775808) (hi := 9223372036854775807) w3 (by decide)
      have b4 := int_fits (lo := -9223372036854775808) (hi := 9223372036854775807) w4 (by decide)
      have b5 := int_fits (lo := -9223372036854775808) (hi := 9223372036854775807) w5 (by decide)
      exact ⟨⟨a0, a1, a2, a3, a4, a5⟩, ⟨b0, b1, b2, b3, b4, b5⟩, ⟨c0, c1, c2, c3, c4, c5⟩⟩
/-- An argument. -/
theorem open_Wns {HH : Type} {enc : TypeId × Value → HH} {W : World} {a : Option Addr} {len cap : Nat} {d : DataW HH} {p : List MemPlace}
    (h : DataW.Trod enc Try.prog W 0 (fun _ => true) true 45 (.slice a len cap) d p) :
    ∃ xs : List Wn, xs.length = len ∧ len ≤ cap ∧ cap ≤ maxLen ∧ (a = none → cap = 0) ∧ RdsWn W W.heap.size a xs ∧ (∀ x ∈ xs, x.Ok) := by
  obtain ⟨fuel, hf⟩ := h
  rcases open_slice Try.underlying45 hf with ⟨hcs, hx⟩ | ⟨a', l, c, m, n, D, Pl, hcs, hb, hl, hm, hmm, hx, hi⟩
  · simp [Value.cells] at hcs
    obtain ⟨rfl, rfl, rfl⟩ := hcs
    exact ⟨[], rfl, Nat.le_refl _, Nat.zero_le _, fun _ => rfl, fun j x hx => by simp at hx, by simp⟩
  · simp [Value.cells] at hcs
    obtain ⟨rfl, rfl, rfl⟩ := hcs
    have hmc : m = cap := by simpa using hmm
    subst hmc
    obtain ⟨xs, hxl, hxs⟩ := pick_all (P := fun i x => x.Ok ∧ RdWn W (a'.add (i * 6)) x) len fun i hil => by
      obtain ⟨cs', hc, ht⟩ := hi i (by omega)
      rw [show Try.prog.cellsOf 77 = 6 by kernel_rfl] at hc
      exact one_Wn hc ht
    refine ⟨xs, hxl, hl, hm, (by intro h; cases h), fun j x hx => ?_, fun x hx => ?_⟩
    · have h1 := (hxs j x hx).2
      have h2 := cell_lt h1.c0
      rw [add_block] at h2
      exact ⟨a', rfl, h2, h1⟩
    · obtain ⟨j, hj⟩ := List.mem_iff_getElem?.1 hx
      exact (hxs j x hj).1
end Q
end Go.Proofs.Ytobbnbelacncjaa
