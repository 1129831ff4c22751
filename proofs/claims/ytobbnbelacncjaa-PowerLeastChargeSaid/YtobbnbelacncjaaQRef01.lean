/-
  Small facts on memory; the shared helpers of perigeeref01: Ceil, Bound, Pick, SameInts, Has.
-/
import Derived.Test.YtobbnbelacncjaaApp2
import Derived.Test.YtobbnbelacncjaaAround
import Derived.Test.YtobbnbelacncjaaShelf
import Derived.Deep.DeepCutAuto
import Derived.Deep.RegionHeld3
import Derived.Deep.LoopGhost
import Derived.Deep.QuietTactic
namespace Go.Proofs.Ytobbnbelacncjaa
open Go.RowKit
namespace Q
open H
set_option linter.unusedVariables false
set_option maxRecDepth 100000
abbrev I64 (a : Int) : Prop := -9223372036854775808 ≤ a ∧ a ≤ 9223372036854775807
theorem cell_top (w : World) (cs : Array Value) (t : TypeId) (o : Nat) : (w.alloc (.cells cs t)).cell? ⟨w.heap.size, o, none⟩ = cs[o]? := by
  rw [World.cell?_alloc_at _ _ _ _ (by simp)]
theorem cell_under {W : World} {a : Addr} {v : Value} (o : Obj) (h : W.cell? a = some v) : (W.alloc o).cell? a = some v :=
  (((Below.refl W.heap.size W).alloc (Nat.le_refl _) o).cell (World.block_lt_of_cell? _ _ h)).trans h
theorem heap_top (w : World) (o : Obj) : (w.alloc o).heap[w.heap.size]? = some o := by
  show (w.heap.push o)[w.heap.size]? = _
  simp
theorem heap_keep {W w3 : World} {b : Nat} {o : Obj} (hB : Below W.heap.size W w3) (h : W.heap[b]? = some o) : w3.heap[b]? = some o := by
  have hb : b < W.heap.size := by
    by_cases hb : b < W.heap.size
    · exact hb
    · rw [Array.getElem?_eq_none (by omega)] at h; cases h
  exact (hB.block b hb).trans h
theorem below_cell {W w3 : World} {a : Addr} {v : Value} (hB : Below W.heap.size W w3) (h : W.cell? a = some v) : w3.cell? a = some v := (hB.cell (World.block_lt_of_cell? _ _ h)).trans h
theorem infoI : (Try.prog.info? 3).map (fun i => (i.zero, i.size, i.bytes)) = some (some (.int .i64 0), 1, 8) := by kernel_rfl
theorem cell_new1 (w : World) (x : Value) (t : TypeId) : ∀ (j : Nat) (u : Value), [x][j]? = some u → (w.alloc (.cells #[x] t)).cell? ⟨w.heap.size, j, none⟩ = some u := fun j u h => by
  match j, h with
  | 0, h => obtain rfl := Option.some.inj h; exact cell_top _ _ _ _
abbrev ints (l : List Int) : List Value := l.map (Value.int .i64)
theorem own_any {w : World} {base n n' : Nat} {e : TypeId} {v : Value} {xs xs' : List Value} (h : w.ownsRow base e 1 v n xs) (hn : n = n') (hx : xs = xs') : w.ownsRow base e 1 v n' xs' := by subst hn; subst hx; exact h
theorem below_drew (w : World) : Below w.heap.size w w.drew := (Below.refl _ _).drew
theorem bel1 (w : World) (o : Obj) : Below w.heap.size w (w.alloc o) := (Below.refl _ w).alloc (Nat.le_refl _) _
theorem bel2 (w : World) (o p : Obj) : Below w.heap.size w ((w.alloc o).alloc p) := (bel1 w o).alloc (by simp) _
theorem belT {w V : World} (o : Obj) (h : Below (w.alloc o).heap.size (w.alloc o) V) : Below w.heap.size w V := (bel1 w o).trans (h.mono (by simp))
theorem belTT {w V : World} (o p : Obj) (h : Below ((w.alloc o).alloc p).heap.size ((w.alloc o).alloc p) V) : Below w.heap.size w V := (bel2 w o p).trans (h.mono (by simp; omega))
theorem cd_eq {c d : Int} (hc : 1 ≤ c) (hd : 1 ≤ d) : c / d + (if c % d < 1 then c % d else 1) = (c - 1) / d + 1 := by
  have h1 := Int.emod_nonneg c (show d ≠ 0 by omega)
  have h2 := Int.emod_lt_of_pos c (show 0 < d by omega)
  have h3 := Int.mul_ediv_add_emod c d
  have h4 : d * (c / d - 1) = d * (c / d) - d := by rw [Int.mul_sub, Int.mul_one]
  split
  · have e : c - 1 = (d - 1) + d * (c / d - 1) := by omega
    have e2 : (d - 1) / d = 0 := Int.ediv_eq_zero_of_lt (by omega) (by omega)
    rw [e, Int.add_mul_ediv_left _ _ (show d ≠ 0 by omega), e2]
    omega
  · have e : c - 1 = (c % d - 1) + d * (c / d) := by omega
    have e2 : (c % d - 1) / d = 0 := Int.ediv_eq_zero_of_lt (by omega) (by omega)
    rw [e, Int.add_mul_ediv_left _ _ (show d ≠ 0 by omega), e2]
    omega
theorem dv_bd {c d : Int} (hc : 0 ≤ c) (hd : 1 ≤ d) : 0 ≤ c / d ∧ c / d ≤ c := by
  exact ⟨Int.ediv_nonneg hc (by omega), Int.ediv_le_self _ hc⟩
def pick (l : List Int) (i m : Int) : Int := if i < 0 ∨ (l.length : Int) ≤ i then 0 else around (l[i.toNat]?.getD 0) m
theorem pick_bd (l : List Int) (i : Int) {m : Int} (h : 1 ≤ m) : 0 ≤ pick l i m ∧ pick l i m < m := by
  unfold pick
  split
  · omega
  · exact around_lt _ h
theorem take_same {xs bs : List Int} {k : Nat} (h : xs.take k = bs.take k) {x y : Int} (hx : xs[k]? = some x) (hy : bs[k]? = some y) (e : x = y) : xs.take (k + 1) = bs.take (k + 1) := by
  subst e
  rw [List.take_add_one, List.take_add_one, h, hx, hy]
theorem take_diff {xs bs : List Int} {k : Nat} {x y : Int} (hx : xs[k]? = some x) (hy : bs[k]? = some y) (e : ¬ x = y) : xs ≠ bs := by
  rintro rfl
  rw [hx] at hy
  exact e (Option.some.inj hy)

end Q
end Go.Proofs.Ytobbnbelacncjaa
