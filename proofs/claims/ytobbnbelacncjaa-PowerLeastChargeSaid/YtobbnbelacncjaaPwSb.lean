/-
  The memory of a tick: a battery, a supply, their results, the loads in order.
-/
import Derived.Test.YtobbnbelacncjaaPwOrd
import Derived.Test.YtobbnbelacncjaaPwStD
namespace Go.Proofs.Ytobbnbelacncjaa
open Go.RowKit
namespace Pw
open H
set_option linter.unusedVariables false
set_option linter.unusedSimpArgs false
set_option maxRecDepth 100000
theorem hoth {W : World} {b b' i : Nat} {o : Obj} (v : Value) (h : W.heap[b]? = some o) (hne : b ≠ b') : (W.setCell ⟨b', i, none⟩ v).heap[b]? = some o :=
  (Below.heap_setCell _ _ _ _ (by simpa using hne)).trans h
theorem hoth2 {W : World} {b b' i : Nat} (v : Value) (hne : b ≠ b') : (W.setCell ⟨b', i, none⟩ v).heap[b]? = W.heap[b]? := Below.heap_setCell _ _ _ _ (by simpa using hne)
/-- n: the first block; n5: the size of memory once the loads are ordered (w5). -/
structure Sb (w w5 W : World) (bc cg br ga us sp : Int) (v : Value) (bo : Bool) : Prop where
  b0 : W.heap[w.heap.size]? = some (.cells #[.int .i64 bc, .int .i64 cg, .int .i64 br] 23 (0, 0))
  b1 : W.heap[w.heap.size + 1]? = some (.cells #[.int .i64 0, .int .i64 0, .int .i64 0] 23 (0, 0))
  b2 : W.heap[w.heap.size + 1 + 1]? = some (.cells #[.int .i64 0, .int .i64 0, .int .i64 0, .slice none 0 0, .bool false] 33 (0, 0))
  b3 : W.heap[w.heap.size + 1 + 1 + 1]? = some (.cells #[.int .i64 ga, .int .i64 us, .int .i64 sp, v, .bool bo] 33 (0, 0))
  bel : Below w.heap.size w W
  lt : w.heap.size + 1 + 1 + 1 + 1 ≤ w5.heap.size
  le : w5.heap.size ≤ W.heap.size
  od : ∀ k, w.heap.size + 1 + 1 + 1 + 1 ≤ k → k < w5.heap.size → W.heap[k]? = w5.heap[k]?
theorem heap_below {W V : World} {n k : Nat} (hB : Below n W V) (hk : k < n) : V.heap[k]? = W.heap[k]? := hB.block k hk
theorem Sb.call {w w5 W V : World} {bc cg br ga us sp : Int} {v : Value} {bo : Bool} (h : Sb w w5 W bc cg br ga us sp v bo) (hB : Below w5.heap.size W V) : Sb w w5 V bc cg br ga us sp v bo := by
  have hl := h.lt
  exact ⟨(heap_below hB (by omega)).trans h.b0, (heap_below hB (by omega)).trans h.b1, (heap_below hB (by omega)).trans h.b2, (heap_below hB (by omega)).trans h.b3, h.bel.trans (hB.mono (by omega)), hl, Nat.le_trans h.le hB.size, fun k h1 h2 => (heap_below hB h2).trans (h.od k h1 h2)⟩
theorem Sb.chg {w w5 W : World} {bc cg br ga us sp : Int} {v : Value} {bo : Bool} (h : Sb w w5 W bc cg br ga us sp v bo) (z : Int) : Sb w w5 (W.setCell ⟨w.heap.size, 1, none⟩ (.int .i64 z)) bc z br ga us sp v bo :=
  ⟨hset _ h.b0, hoth _ h.b1 (by omega), hoth _ h.b2 (by omega), hoth _ h.b3 (by omega), h.bel.setCell (p := ⟨w.heap.size, 1, none⟩) (Nat.le_refl _) _, h.lt, by simpa using h.le, fun k h1 h2 => (hoth2 _ (by omega)).trans (h.od k h1 h2)⟩
theorem Sb.used {w w5 W : World} {bc cg br ga us sp : Int} {v : Value} {bo : Bool} (h : Sb w w5 W bc cg br ga us sp v bo) (z : Int) : Sb w w5 (W.setCell ⟨w.heap.size + 1 + 1 + 1, 1, none⟩ (.int .i64 z)) bc cg br ga z sp v bo :=
  ⟨hoth _ h.b0 (by omega), hoth _ h.b1 (by omega), hoth _ h.b2 (by omega), hset _ h.b3, h.bel.setCell (p := ⟨w.heap.size + 1 + 1 + 1, 1, none⟩) (by simp; omega) _, h.lt, by simpa using h.le, fun k h1 h2 => (hoth2 _ (by omega)).trans (h.od k h1 h2)⟩
theorem Sb.ids {w w5 W : World} {bc cg br ga us sp : Int} {v : Value} {bo : Bool} (h : Sb w w5 W bc cg br ga us sp v bo) (u : Value) : Sb w w5 (W.setCell ⟨w.heap.size + 1 + 1 + 1, 3, none⟩ u) bc cg br ga us sp u bo :=
  ⟨hoth _ h.b0 (by omega), hoth _ h.b1 (by omega), hoth _ h.b2 (by omega), hset _ h.b3, h.bel.setCell (p := ⟨w.heap.size + 1 + 1 + 1, 3, none⟩) (by simp; omega) _, h.lt, by simpa using h.le, fun k h1 h2 => (hoth2 _ (by omega)).trans (h.od k h1 h2)⟩
theorem Sb.brown {w w5 W : World} {bc cg br ga us sp : Int} {v : Value} {bo : Bool} (h : Sb w w5 W bc cg br ga us sp v bo) (u : Bool) : Sb w w5 (W.setCell ⟨w.heap.size + 1 + 1 + 1, 4, none⟩ (.bool u)) bc cg br ga us sp v u :=
  ⟨hoth _ h.b0 (by omega), hoth _ h.b1 (by omega), hoth _ h.b2 (by omega), hset _ h.b3, h.bel.setCell (p := ⟨w.heap.size + 1 + 1 + 1, 4, none⟩) (by simp; omega) _, h.lt, by simpa using h.le, fun k h1 h2 => (hoth2 _ (by omega)).trans (h.od k h1 h2)⟩
theorem Sb.c0 {w w5 W : World} {bc cg br ga us sp : Int} {v : Value} {bo : Bool} (h : Sb w w5 W bc cg br ga us sp v bo) : W.cell? ⟨w.heap.size, 0, none⟩ = some (.int .i64 bc) ∧ W.cell? ⟨w.heap.size, 1, none⟩ = some (.int .i64 cg) ∧ W.cell? ⟨w.heap.size, 2, none⟩ = some (.int .i64 br) := by
  have := h.b0
  refine ⟨?_, ?_, ?_⟩ <;> rw [cell_obj this] <;> rfl
theorem Sb.c3 {w w5 W : World} {bc cg br ga us sp : Int} {v : Value} {bo : Bool} (h : Sb w w5 W bc cg br ga us sp v bo) : W.cell? ⟨w.heap.size + 1 + 1 + 1, 0, none⟩ = some (.int .i64 ga) ∧ W.cell? ⟨w.heap.size + 1 + 1 + 1, 1, none⟩ = some (.int .i64 us) ∧ W.cell? ⟨w.heap.size + 1 + 1 + 1, 2, none⟩ = some (.int .i64 sp) ∧ W.cell? ⟨w.heap.size + 1 + 1 + 1, 3, none⟩ = some v ∧ W.cell? ⟨w.heap.size + 1 + 1 + 1, 4, none⟩ = some (.bool bo) := by
  have := h.b3
  refine ⟨?_, ?_, ?_, ?_, ?_⟩ <;> rw [cell_obj this] <;> rfl
theorem Sb.f0 {w w5 W : World} {bc cg br ga us sp : Int} {v : Value} {bo : Bool} (h : Sb w w5 W bc cg br ga us sp v bo) : W.frozen? ⟨w.heap.size, 1, none⟩ = false := frz_obj h.b0 1
theorem Sb.f3 {w w5 W : World} {bc cg br ga us sp : Int} {v : Value} {bo : Bool} (h : Sb w w5 W bc cg br ga us sp v bo) (j : Nat) : W.frozen? ⟨w.heap.size + 1 + 1 + 1, j, none⟩ = false := frz_obj h.b3 j
theorem cell_heap {W V : World} {a : Addr} (h : W.heap[a.block]? = V.heap[a.block]?) : W.cell? a = V.cell? a := by
  unfold World.cell?
  rw [h]
/-- The loads in order, wherever the blocks behind the four boxes are as they were. -/
theorem Sb.rd {w w5 W : World} {bc cg br ga us sp : Int} {v : Value} {bo : Bool} (h : Sb w w5 W bc cg br ga us sp v bo) {ad : Addr} {x : Ld} (h1 : w.heap.size + 1 + 1 + 1 + 1 ≤ ad.block) (h2 : ad.block < w5.heap.size) (hr : RdLd w5 ad x) : RdLd W ad x := by
  have hk := h.od _ h1 h2
  exact ⟨(cell_heap hk).trans hr.c0, (cell_heap (a := ⟨ad.block, ad.off + 1, none⟩) hk).trans hr.c1, (cell_heap (a := ⟨ad.block, ad.off + 2, none⟩) hk).trans hr.c2, (cell_heap (a := ⟨ad.block, ad.off + 3, none⟩) hk).trans hr.c3⟩
theorem own_rds4b {W : World} {b : Nat} {A : Option Addr} {c : Nat} {L : List Ld} (h : W.ownsRow b 41 4 (.slice A L.length c) L.length (flat4 L)) : ∀ j x, L[j]? = some x → ∃ ad, A = some ad ∧ b ≤ ad.block ∧ ad.block < W.heap.size ∧ RdLd W (ad.add (j * 4)) x := by
  intro j x hx
  obtain ⟨ad, e, hlt, hr⟩ := own_rds4 h j x hx
  refine ⟨ad, e, ?_, hlt, hr⟩
  have hj := (List.getElem?_eq_some_iff.1 hx).1
  obtain ⟨_, ⟨_, h0⟩ | ⟨g, cap, cur, hv, hg, hh, _⟩⟩ := h
  · omega
  · injection hv with e1
    rw [e] at e1
    rw [Option.some.inj e1]
    exact hg
end Pw
end Go.Proofs.Ytobbnbelacncjaa
