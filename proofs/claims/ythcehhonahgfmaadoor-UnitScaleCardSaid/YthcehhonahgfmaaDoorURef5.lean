/-
  Contracts of the specification's functions of dimensions and quantities: Mul, Div.
-/
import Derived.Test.YthcehhonahgfmaaDoorURef4
namespace Go.Proofs.YthcehhonahgfmaaDoor
open Go.RowKit
namespace U
open H
set_option linter.unusedVariables false

/-- What a function of two quantities holds while it computes: the boxed arguments, the result's block. -/
theorem keepS {w : World} {x y : Qt} : (fun W1 => (∀ o, W1.cell? ⟨w.heap.size, o, none⟩ = (#[.int .i64 x.n, .int .i64 x.m.e, .int .i64 x.m.d, .int .i64 x.m.t, .int .i64 x.m.a, .int .i64 x.m.h] : Array Value)[o]?) ∧ (∀ o, W1.cell? ⟨w.heap.size + 1, o, none⟩ = (#[.int .i64 y.n, .int .i64 y.m.e, .int .i64 y.m.d, .int .i64 y.m.t, .int .i64 y.m.a, .int .i64 y.m.h] : Array Value)[o]?) ∧ (∃ cur, W1.heap[w.heap.size + 1 + 1]? = some (.cells cur 32 (0, 0)) ∧ cur.size = 6) ∧ w.heap.size + 1 + 1 < W1.heap.size ∧ Below w.heap.size w W1) (((w.alloc (.cells #[.int .i64 x.n, .int .i64 x.m.e, .int .i64 x.m.d, .int .i64 x.m.t, .int .i64 x.m.a, .int .i64 x.m.h] 32)).alloc (.cells #[.int .i64 y.n, .int .i64 y.m.e, .int .i64 y.m.d, .int .i64 y.m.t, .int .i64 y.m.a, .int .i64 y.m.h] 32)).alloc (.cells #[.int .i64 0, .int .i64 0, .int .i64 0, .int .i64 0, .int .i64 0, .int .i64 0] 32)).drew :=
  ⟨fun o => cell_of_row (((w.alloc (.cells #[.int .i64 x.n, .int .i64 x.m.e, .int .i64 x.m.d, .int .i64 x.m.t, .int .i64 x.m.a, .int .i64 x.m.h] 32)).alloc (.cells #[.int .i64 y.n, .int .i64 y.m.e, .int .i64 y.m.d, .int .i64 y.m.t, .int .i64 y.m.a, .int .i64 y.m.h] 32)).alloc (.cells #[.int .i64 0, .int .i64 0, .int .i64 0, .int .i64 0, .int .i64 0, .int .i64 0] 32)) w.heap.size o _ _ _ (b30 w _ _ _), fun o => cell_of_row (((w.alloc (.cells #[.int .i64 x.n, .int .i64 x.m.e, .int .i64 x.m.d, .int .i64 x.m.t, .int .i64 x.m.a, .int .i64 x.m.h] 32)).alloc (.cells #[.int .i64 y.n, .int .i64 y.m.e, .int .i64 y.m.d, .int .i64 y.m.t, .int .i64 y.m.a, .int .i64 y.m.h] 32)).alloc (.cells #[.int .i64 0, .int .i64 0, .int .i64 0, .int .i64 0, .int .i64 0, .int .i64 0] 32)) (w.heap.size + 1) o _ _ _ (b31 w _ _ _), ⟨_, b32 w _ _ _, rfl⟩, by show _ < (((w.alloc (.cells #[.int .i64 x.n, .int .i64 x.m.e, .int .i64 x.m.d, .int .i64 x.m.t, .int .i64 x.m.a, .int .i64 x.m.h] 32)).alloc (.cells #[.int .i64 y.n, .int .i64 y.m.e, .int .i64 y.m.d, .int .i64 y.m.t, .int .i64 y.m.a, .int .i64 y.m.h] 32)).alloc (.cells #[.int .i64 0, .int .i64 0, .int .i64 0, .int .i64 0, .int .i64 0, .int .i64 0] 32)).heap.size; rw [s3]; omega, (bel3 w _ _ _).drew⟩
theorem stepS {w W W1 : World} {x y : Qt} (h : (fun W1 => (∀ o, W1.cell? ⟨w.heap.size, o, none⟩ = (#[.int .i64 x.n, .int .i64 x.m.e, .int .i64 x.m.d, .int .i64 x.m.t, .int .i64 x.m.a, .int .i64 x.m.h] : Array Value)[o]?) ∧ (∀ o, W1.cell? ⟨w.heap.size + 1, o, none⟩ = (#[.int .i64 y.n, .int .i64 y.m.e, .int .i64 y.m.d, .int .i64 y.m.t, .int .i64 y.m.a, .int .i64 y.m.h] : Array Value)[o]?) ∧ (∃ cur, W1.heap[w.heap.size + 1 + 1]? = some (.cells cur 32 (0, 0)) ∧ cur.size = 6) ∧ w.heap.size + 1 + 1 < W1.heap.size ∧ Below w.heap.size w W1) W) (hB : Below W.heap.size W W1) : (fun W1 => (∀ o, W1.cell? ⟨w.heap.size, o, none⟩ = (#[.int .i64 x.n, .int .i64 x.m.e, .int .i64 x.m.d, .int .i64 x.m.t, .int .i64 x.m.a, .int .i64 x.m.h] : Array Value)[o]?) ∧ (∀ o, W1.cell? ⟨w.heap.size + 1, o, none⟩ = (#[.int .i64 y.n, .int .i64 y.m.e, .int .i64 y.m.d, .int .i64 y.m.t, .int .i64 y.m.a, .int .i64 y.m.h] : Array Value)[o]?) ∧ (∃ cur, W1.heap[w.heap.size + 1 + 1]? = some (.cells cur 32 (0, 0)) ∧ cur.size = 6) ∧ w.heap.size + 1 + 1 < W1.heap.size ∧ Below w.heap.size w W1) W1 := by
  obtain ⟨h0, h1, ⟨cur, h2, h2'⟩, h3, h4⟩ := h
  exact ⟨fun o => (hB.cell (p := ⟨w.heap.size, o, none⟩) (by show w.heap.size < _; omega)).trans (h0 o), fun o => (hB.cell (p := ⟨w.heap.size + 1, o, none⟩) (by show w.heap.size + 1 < _; omega)).trans (h1 o), ⟨cur, (hB.block _ h3).trans h2, h2'⟩, by have := hB.size; omega, h4.trans (hB.mono h4.size)⟩
theorem storeS {w W : World} {x y : Qt} {cs : Array Value} (h : (fun W1 => (∀ o, W1.cell? ⟨w.heap.size, o, none⟩ = (#[.int .i64 x.n, .int .i64 x.m.e, .int .i64 x.m.d, .int .i64 x.m.t, .int .i64 x.m.a, .int .i64 x.m.h] : Array Value)[o]?) ∧ (∀ o, W1.cell? ⟨w.heap.size + 1, o, none⟩ = (#[.int .i64 y.n, .int .i64 y.m.e, .int .i64 y.m.d, .int .i64 y.m.t, .int .i64 y.m.a, .int .i64 y.m.h] : Array Value)[o]?) ∧ (∃ cur, W1.heap[w.heap.size + 1 + 1]? = some (.cells cur 32 (0, 0)) ∧ cur.size = 6) ∧ w.heap.size + 1 + 1 < W1.heap.size ∧ Below w.heap.size w W1) W) (hc : cs.size = 6) : (fun W1 => (∀ o, W1.cell? ⟨w.heap.size, o, none⟩ = (#[.int .i64 x.n, .int .i64 x.m.e, .int .i64 x.m.d, .int .i64 x.m.t, .int .i64 x.m.a, .int .i64 x.m.h] : Array Value)[o]?) ∧ (∀ o, W1.cell? ⟨w.heap.size + 1, o, none⟩ = (#[.int .i64 y.n, .int .i64 y.m.e, .int .i64 y.m.d, .int .i64 y.m.t, .int .i64 y.m.a, .int .i64 y.m.h] : Array Value)[o]?) ∧ (∃ cur, W1.heap[w.heap.size + 1 + 1]? = some (.cells cur 32 (0, 0)) ∧ cur.size = 6) ∧ w.heap.size + 1 + 1 < W1.heap.size ∧ Below w.heap.size w W1) (W.setRow (w.heap.size + 1 + 1) cs) := by
  obtain ⟨h0, h1, ⟨cur, h2, h2'⟩, h3, h4⟩ := h
  refine ⟨fun o => ?_, fun o => ?_, ⟨cs, setRow_heap _ _ _ _ _ _ h2, hc⟩, by rw [size_setRow]; exact h3, below_setRow h4 (by omega) _⟩
  · rw [cell_setRow_other _ _ _ _ (by show w.heap.size ≠ _; omega)]; exact h0 o
  · rw [cell_setRow_other _ _ _ _ (by show w.heap.size + 1 ≠ _; omega)]; exact h1 o
set_option maxRecDepth 100000 in
set_option maxHeartbeats 1000000 in
theorem rmul_any (x y : Qt) (w : World) (hx : x.valid) (hy : y.valid) :
    Calls Tryd.prog 32 #[.agg #[.int .i64 x.n, .int .i64 x.m.e, .int .i64 x.m.d, .int .i64 x.m.t, .int .i64 x.m.a, .int .i64 x.m.h], .agg #[.int .i64 y.n, .int .i64 y.m.e, .int .i64 y.m.d, .int .i64 y.m.t, .int .i64 y.m.a, .int .i64 y.m.h]] w fun r w' => r = .returned (.tuple #[.agg #[.int .i64 (mulQ x y).1.n, .int .i64 (mulQ x y).1.m.e, .int .i64 (mulQ x y).1.m.d, .int .i64 (mulQ x y).1.m.t, .int .i64 (mulQ x y).1.m.a, .int .i64 (mulQ x y).1.m.h], .int .i64 (mulQ x y).2]) ∧ Below w.heap.size w w' := by
  have HCK := Lib.hid (fun W => rchecked_any ⟨x.n * y.n, x.m.times y.m⟩ W)
  have HT := Lib.hid (fun W => rtimes_any x.m y.m W (by have := hx.2; unfold Dm.in at *; omega) (by have := hy.2; unfold Dm.in at *; omega))
  have hb := mul_bd hx.1 hy.1
  clear hx hy
  have hM : mulQ x y = chk ⟨x.n * y.n, x.m.times y.m⟩ := rfl
  rw [hM]
  clear hM
  have hwr : IntKind.i64.wrap (x.n * y.n) = x.n * y.n := IntWalk.i64_in _ (by omega)
  clear hb
  generalize chk ⟨x.n * y.n, x.m.times y.m⟩ = c at *
  go_enter Tryd.func32, Tryd.ntmps32
  go_wp2_with fail
  have hS9 := keepS (w := w) (x := x) (y := y)
  refine wp_region_noPanic ?_
  refine wp_region_held_drew (S := (fun W1 => (∀ o, W1.cell? ⟨w.heap.size, o, none⟩ = (#[.int .i64 x.n, .int .i64 x.m.e, .int .i64 x.m.d, .int .i64 x.m.t, .int .i64 x.m.a, .int .i64 x.m.h] : Array Value)[o]?) ∧ (∀ o, W1.cell? ⟨w.heap.size + 1, o, none⟩ = (#[.int .i64 y.n, .int .i64 y.m.e, .int .i64 y.m.d, .int .i64 y.m.t, .int .i64 y.m.a, .int .i64 y.m.h] : Array Value)[o]?) ∧ (∃ cur, W1.heap[w.heap.size + 1 + 1]? = some (.cells cur 32 (0, 0)) ∧ cur.size = 6) ∧ w.heap.size + 1 + 1 < W1.heap.size ∧ Below w.heap.size w W1)) (by kernel_rfl) (keepS) (fun hHeld => ?_)
  refine wpAnyH_take (i := 0) (oi := { dst := some 6, op := _, type := _, pos := _, after := _, guard := _ }) (v := ?_) rfl (by kernel_rfl) (by kernel_rfl) (by kernel_rfl) (fun _ _ _ h => h) (Or.inl ⟨by rfl, ?_⟩) (by assumption) ?_
  rotate_left
  · (intro w hSw; (try dsimp only at hSw); (try obtain ⟨hS0, hS1, hS2, hS3, hS4⟩ := hSw); go_simp)
    first | done | with_reducible rfl
  try simp only [Act.put, List.setIfInBounds_toArray, List.set_cons_zero, List.set_cons_succ]
  refine wpAnyH_take (i := 1) (oi := { dst := some 7, op := _, type := _, pos := _, after := _, guard := _ }) (v := ?_) rfl (by kernel_rfl) (by kernel_rfl) (by kernel_rfl) (fun _ _ _ h => h) (Or.inl ⟨by rfl, ?_⟩) (by assumption) ?_
  rotate_left
  · (intro w hSw; (try dsimp only at hSw); (try obtain ⟨hS0, hS1, hS2, hS3, hS4⟩ := hSw); go_simp)
    first | done | with_reducible rfl
  try simp only [Act.put, List.setIfInBounds_toArray, List.set_cons_zero, List.set_cons_succ]
  refine wpAnyH_take (i := 2) (oi := { dst := some 8, op := _, type := _, pos := _, after := _, guard := _ }) (v := ?_) rfl (by kernel_rfl) (by kernel_rfl) (by kernel_rfl) (fun _ _ _ h => h) (Or.inl ⟨by rfl, ?_⟩) (by assumption) ?_
  rotate_left
  · (intro w hSw; (try dsimp only at hSw); (try obtain ⟨hS0, hS1, hS2, hS3, hS4⟩ := hSw); go_simp)
    first | done | with_reducible rfl
  try simp only [Act.put, List.setIfInBounds_toArray, List.set_cons_zero, List.set_cons_succ]
  refine wpAnyH_take (i := 3) (oi := { dst := some 9, op := _, type := _, pos := _, after := _, guard := _ }) (v := ?_) rfl (by kernel_rfl) (by kernel_rfl) (by kernel_rfl) (fun _ _ _ h => h) (Or.inl ⟨by rfl, ?_⟩) (by assumption) ?_
  rotate_left
  · (intro w hSw; (try dsimp only at hSw); (try obtain ⟨hS0, hS1, hS2, hS3, hS4⟩ := hSw); go_simp)
    first | done | with_reducible rfl
  try simp only [Act.put, List.setIfInBounds_toArray, List.set_cons_zero, List.set_cons_succ]
  refine wpAnyH_take (i := 4) (oi := { dst := some 10, op := _, type := _, pos := _, after := _, guard := _ }) (v := ?_) rfl (by kernel_rfl) (by kernel_rfl) (by kernel_rfl) (fun _ _ _ h => h) (Or.inl ⟨by rfl, ?_⟩) (by assumption) ?_
  rotate_left
  · (intro w hSw; (try dsimp only at hSw); (try obtain ⟨hS0, hS1, hS2, hS3, hS4⟩ := hSw); go_simp)
    first | done | with_reducible rfl
  try simp only [Act.put, List.setIfInBounds_toArray, List.set_cons_zero, List.set_cons_succ]
  refine wpAnyH_take (i := 5) (oi := { dst := some 11, op := _, type := _, pos := _, after := _, guard := _ }) (v := ?_) rfl (by kernel_rfl) (by kernel_rfl) (by kernel_rfl) (fun _ _ _ h => h) (Or.inl ⟨by rfl, ?_⟩) (by assumption) ?_
  rotate_left
  · (intro w hSw; (try dsimp only at hSw); (try obtain ⟨hS0, hS1, hS2, hS3, hS4⟩ := hSw); go_simp)
    first | done | with_reducible rfl
  try simp only [Act.put, List.setIfInBounds_toArray, List.set_cons_zero, List.set_cons_succ]
  refine wpAnyH_take (i := 6) (oi := { dst := some 12, op := _, type := _, pos := _, after := _, guard := _ }) (v := ?_) rfl (by kernel_rfl) (by kernel_rfl) (by kernel_rfl) (fun _ _ _ h => h) (Or.inl ⟨by rfl, ?_⟩) (by assumption) ?_
  rotate_left
  · (intro w hSw; (try dsimp only at hSw); (try obtain ⟨hS0, hS1, hS2, hS3, hS4⟩ := hSw); go_simp)
    first | done | with_reducible rfl
  try simp only [Act.put, List.setIfInBounds_toArray, List.set_cons_zero, List.set_cons_succ]
  refine wpAnyH_take (i := 7) (oi := { dst := some 13, op := _, type := _, pos := _, after := _, guard := _ }) (v := ?_) rfl (by kernel_rfl) (by kernel_rfl) (by kernel_rfl) (fun _ _ _ h => h) (Or.inl ⟨by rfl, ?_⟩) (by assumption) ?_
  rotate_left
  · (intro w hSw; (try dsimp only at hSw); (try obtain ⟨hS0, hS1, hS2, hS3, hS4⟩ := hSw); go_simp)
    first | done | with_reducible rfl
  try simp only [Act.put, List.setIfInBounds_toArray, List.set_cons_zero, List.set_cons_succ]
  refine wpAnyH_take (i := 8) (oi := { dst := some 14, op := _, type := _, pos := _, after := _, guard := _ }) (v := ?_) rfl (by kernel_rfl) (by kernel_rfl) (by kernel_rfl) (fun _ _ _ h => h) (Or.inl ⟨by rfl, ?_⟩) (by assumption) ?_
  rotate_left
  · (intro w hSw; (try dsimp only at hSw); (try obtain ⟨hS0, hS1, hS2, hS3, hS4⟩ := hSw); go_simp)
    first | done | with_reducible rfl
  try simp only [Act.put, List.setIfInBounds_toArray, List.set_cons_zero, List.set_cons_succ]
  refine wpAnyH_ready (rs := [9]) (by kernel_rfl) (by simp) ?_
  refine AllReadyH.cons (o := { dst := some 15, op := _, type := _, pos := _, after := _, guard := _ }) rfl (fun K hK => ?_) AllReadyH.nil
  go_simp
  refine (HT.out _).mono ?_
  rintro r w1 ⟨rfl, hB⟩
  have hS10 := stepS hS9 hB
  clear hB
  go_wp2_with fail
  refine hK.out _ _ hS10 (fun hH2 => ?_)
  clear hK K hHeld
  rename _ => hHeld
  try simp only [Act.put, List.setIfInBounds_toArray, List.set_cons_zero, List.set_cons_succ]
  refine wpAnyH_take (i := 10) (oi := { dst := some 16, op := _, type := _, pos := _, after := _, guard := _ }) (v := ?_) rfl (by kernel_rfl) (by kernel_rfl) (by kernel_rfl) (fun _ _ _ h => h) (Or.inl ⟨by rfl, ?_⟩) (by assumption) ?_
  rotate_left
  · (intro w hSw; (try dsimp only at hSw); (try obtain ⟨hS0, hS1, hS2, hS3, hS4⟩ := hSw); go_simp)
    first | done | with_reducible rfl
  try simp only [Act.put, List.setIfInBounds_toArray, List.set_cons_zero, List.set_cons_succ]
  refine wpAnyH_ready (rs := [11]) (by kernel_rfl) (by simp) ?_
  refine AllReadyH.cons (o := { dst := some 17, op := _, type := _, pos := _, after := _, guard := _ }) rfl (fun K hK => ?_) AllReadyH.nil
  go_simp
  refine (HCK.out _).mono ?_
  rintro r w2 ⟨rfl, hB⟩
  have hS11 := stepS hS10 hB
  clear hB
  go_wp2_with fail
  refine hK.out _ _ hS11 (fun hH2 => ?_)
  clear hK K hHeld
  rename _ => hHeld
  try simp only [Act.put, List.setIfInBounds_toArray, List.set_cons_zero, List.set_cons_succ]
  refine wpAnyH_take (i := 12) (oi := { dst := some 18, op := _, type := _, pos := _, after := _, guard := _ }) (v := ?_) rfl (by kernel_rfl) (by kernel_rfl) (by kernel_rfl) (fun _ _ _ h => h) (Or.inl ⟨by rfl, ?_⟩) (by assumption) ?_
  rotate_left
  · (intro w hSw; (try dsimp only at hSw); (try obtain ⟨hS0, hS1, hS2, hS3, hS4⟩ := hSw); go_simp)
    first | done | with_reducible rfl
  try simp only [Act.put, List.setIfInBounds_toArray, List.set_cons_zero, List.set_cons_succ]
  refine wpAnyH_take (i := 13) (oi := { dst := some 19, op := _, type := _, pos := _, after := _, guard := _ }) (v := ?_) rfl (by kernel_rfl) (by kernel_rfl) (by kernel_rfl) (fun _ _ _ h => h) (Or.inl ⟨by rfl, ?_⟩) (by assumption) ?_
  rotate_left
  · (intro w hSw; (try dsimp only at hSw); (try obtain ⟨hS0, hS1, hS2, hS3, hS4⟩ := hSw); go_simp)
    first | done | with_reducible rfl
  try simp only [Act.put, List.setIfInBounds_toArray, List.set_cons_zero, List.set_cons_succ]
  refine wpAnyH_ready (rs := [14]) (by kernel_rfl) (by simp) ?_
  refine AllReadyH.cons (o := { dst := none, op := _, type := _, pos := _, after := _, guard := _ }) rfl (fun K hK => ?_) AllReadyH.nil
  refine if_wanted rfl ?_
  obtain ⟨cur, hcur, hcs⟩ := hS11.2.2.1
  refine wp_store_row 32 _ _ rfl (w.heap.size + 1 + 1) #[.int .i64 c.1.n, .int .i64 c.1.m.e, .int .i64 c.1.m.d, .int .i64 c.1.m.t, .int .i64 c.1.m.a, .int .i64 c.1.m.h] rfl rfl 32 cur hcur sizeQ hcs (one6 _ _ _ _ _ _) ?_
  have hS12 := storeS (cs := #[.int .i64 c.1.n, .int .i64 c.1.m.e, .int .i64 c.1.m.d, .int .i64 c.1.m.t, .int .i64 c.1.m.a, .int .i64 c.1.m.h]) hS11 rfl
  refine hK.out _ _ hS12 (fun hH2 => ?_)
  clear hK K hHeld
  rename _ => hHeld
  try simp only [Act.put]
  refine wpAnyH_take (i := 15) (oi := { dst := some 5, op := _, type := _, pos := _, after := _, guard := _ }) (v := ?_) rfl (by kernel_rfl) (by kernel_rfl) (by kernel_rfl) (fun _ _ _ h => h) (Or.inl ⟨by rfl, ?_⟩) (by assumption) ?_
  rotate_left
  · (intro w hSw; (try dsimp only at hSw); (try obtain ⟨hS0, hS1, hS2, hS3, hS4⟩ := hSw); go_simp)
    first | done | with_reducible rfl
  try simp only [Act.put, List.setIfInBounds_toArray, List.set_cons_zero, List.set_cons_succ]
  refine wpAnyH_done (by kernel_rfl) ?_ _
  refine NoPanic.normal ?_
  have HB := Lib.hid hS12.2.2.2.2
  have HRES2 := Lib.hid (setRow_heap _ _ _ #[.int .i64 c.1.n, .int .i64 c.1.m.e, .int .i64 c.1.m.d, .int .i64 c.1.m.t, .int .i64 c.1.m.a, .int .i64 c.1.m.h] _ _ hcur)
  clear hHeld hS9 hS10 hS11 hS12
  go_wp2_with fail
  refine bodyPost_ret (v := .tuple #[.agg #[.int .i64 c.1.n, .int .i64 c.1.m.e, .int .i64 c.1.m.d, .int .i64 c.1.m.t, .int .i64 c.1.m.a, .int .i64 c.1.m.h], .int .i64 c.2]) (results_row_tmp (ty := 32) rfl _ _ (w.heap.size + 1 + 1) 32 #[.int .i64 c.1.n, .int .i64 c.1.m.e, .int .i64 c.1.m.d, .int .i64 c.1.m.t, .int .i64 c.1.m.a, .int .i64 c.1.m.h] (0, 0) _ _ rfl rfl HRES2.out Tryd.underlying32 rfl sizeQ) rfl ⟨?_, HB.out⟩
  rfl
theorem fdiv_neg (a b : Int) (h : b < 0) : a.fdiv b = (-a) / (-b) := by
  rw [← Int.neg_fdiv_neg, Int.fdiv_eq_ediv_of_nonneg _ (by omega)]
theorem fdiv_pos (a b : Int) (h : 0 < b) : a.fdiv b = a / b := Int.fdiv_eq_ediv_of_nonneg _ (by omega)
set_option maxRecDepth 100000 in
set_option maxHeartbeats 1000000 in
theorem rdiv_any (x y : Qt) (w : World) (hx : x.valid) (hy : y.valid) :
    Calls Tryd.prog 34 #[.agg #[.int .i64 x.n, .int .i64 x.m.e, .int .i64 x.m.d, .int .i64 x.m.t, .int .i64 x.m.a, .int .i64 x.m.h], .agg #[.int .i64 y.n, .int .i64 y.m.e, .int .i64 y.m.d, .int .i64 y.m.t, .int .i64 y.m.a, .int .i64 y.m.h]] w fun r w' => r = .returned (.tuple #[.agg #[.int .i64 (divQ x y).1.n, .int .i64 (divQ x y).1.m.e, .int .i64 (divQ x y).1.m.d, .int .i64 (divQ x y).1.m.t, .int .i64 (divQ x y).1.m.a, .int .i64 (divQ x y).1.m.h], .int .i64 (divQ x y).2]) ∧ Below w.heap.size w w' := by
  by_cases h0 : y.n = 0
  · have HA := Lib.hid (show divQ x y = (Qt.zero, 1) from if_pos h0)
    have h0b : (y.n == 0) = true := by simp [h0]
    have HRES := Lib.hid (b32 w (.cells #[.int .i64 x.n, .int .i64 x.m.e, .int .i64 x.m.d, .int .i64 x.m.t, .int .i64 x.m.a, .int .i64 x.m.h] 32) (.cells #[.int .i64 y.n, .int .i64 y.m.e, .int .i64 y.m.d, .int .i64 y.m.t, .int .i64 y.m.a, .int .i64 y.m.h] 32) (.cells #[.int .i64 0, .int .i64 0, .int .i64 0, .int .i64 0, .int .i64 0, .int .i64 0] 32))
    have HB := Lib.hid (bel3 w (.cells #[.int .i64 x.n, .int .i64 x.m.e, .int .i64 x.m.d, .int .i64 x.m.t, .int .i64 x.m.a, .int .i64 x.m.h] 32) (.cells #[.int .i64 y.n, .int .i64 y.m.e, .int .i64 y.m.d, .int .i64 y.m.t, .int .i64 y.m.a, .int .i64 y.m.h] 32) (.cells #[.int .i64 0, .int .i64 0, .int .i64 0, .int .i64 0, .int .i64 0, .int .i64 0] 32))
    clear hx hy h0
    go_enter Tryd.func34, Tryd.ntmps34
    go_wp2_with (refine wpList_store_row rfl 32 _ _ rfl (w.heap.size + 1 + 1) #[.int .i64 0, .int .i64 0, .int .i64 0, .int .i64 0, .int .i64 0, .int .i64 0] rfl rfl 32 _ HRES.out sizeQ rfl (one6 _ _ _ _ _ _) ?_)
    refine bodyPost_ret (v := .tuple #[.agg #[.int .i64 0, .int .i64 0, .int .i64 0, .int .i64 0, .int .i64 0, .int .i64 0], .int .i64 1]) (results_row_tmp (ty := 32) rfl _ _ (w.heap.size + 1 + 1) 32 #[.int .i64 0, .int .i64 0, .int .i64 0, .int .i64 0, .int .i64 0, .int .i64 0] (0, 0) _ _ rfl rfl (setRow_heap _ _ _ _ _ _ HRES.out) Tryd.underlying32 rfl sizeQ) rfl ⟨?_, below_setRow HB.out (by omega) _⟩
    rw [HA.out]
    rfl
  · have HO := Lib.hid (fun W => rover_any x.m y.m W (by have := hx.2; unfold Dm.in at *; omega) (by have := hy.2; unfold Dm.in at *; omega))
    have hD : divQ x y = chk ⟨x.n.fdiv y.n, x.m.over y.m⟩ := if_neg h0
    rw [hD]
    clear hD
    have h0b : (y.n == 0) = false := by simp [h0]
    have hxn := hx.1
    have hyn := hy.1
    clear hx hy
    by_cases hneg : y.n < 0
    · have HF := Lib.hid (fun W => rfloor_any (-x.n) (-y.n) W (by omega) (by omega))
      rw [← fdiv_neg _ _ hneg] at HF
      have HCK := Lib.hid (fun W => rchecked_any ⟨x.n.fdiv y.n, x.m.over y.m⟩ W)
      generalize chk ⟨x.n.fdiv y.n, x.m.over y.m⟩ = c at *
      generalize x.n.fdiv y.n = qn at *
      go_enter Tryd.func34, Tryd.ntmps34
      go_wp2_with fail
      have hS9 := keepS (w := w) (x := x) (y := y)
      refine wp_region_noPanic ?_
      refine wp_region_held_drew (S := (fun W1 => (∀ o, W1.cell? ⟨w.heap.size, o, none⟩ = (#[.int .i64 x.n, .int .i64 x.m.e, .int .i64 x.m.d, .int .i64 x.m.t, .int .i64 x.m.a, .int .i64 x.m.h] : Array Value)[o]?) ∧ (∀ o, W1.cell? ⟨w.heap.size + 1, o, none⟩ = (#[.int .i64 y.n, .int .i64 y.m.e, .int .i64 y.m.d, .int .i64 y.m.t, .int .i64 y.m.a, .int .i64 y.m.h] : Array Value)[o]?) ∧ (∃ cur, W1.heap[w.heap.size + 1 + 1]? = some (.cells cur 32 (0, 0)) ∧ cur.size = 6) ∧ w.heap.size + 1 + 1 < W1.heap.size ∧ Below w.heap.size w W1)) (by kernel_rfl) (keepS) (fun hHeld => ?_)
      refine wpAnyH_take (i := 0) (oi := { dst := some 22, op := _, type := _, pos := _, after := _, guard := _ }) (v := ?_) rfl (by kernel_rfl) (by kernel_rfl) (by kernel_rfl) (fun _ _ _ h => h) (Or.inl ⟨by rfl, ?_⟩) (by assumption) ?_
      rotate_left
      · (intro w hSw; (try dsimp only at hSw); (try obtain ⟨hS0, hS1, hS2, hS3, hS4⟩ := hSw); go_simp)
        first | done | with_reducible rfl
      try simp only [Act.put, List.setIfInBounds_toArray, List.set_cons_zero, List.set_cons_succ]
      refine wpAnyH_take (i := 1) (oi := { dst := some 23, op := _, type := _, pos := _, after := _, guard := _ }) (v := ?_) rfl (by kernel_rfl) (by kernel_rfl) (by kernel_rfl) (fun _ _ _ h => h) (Or.inl ⟨by rfl, ?_⟩) (by assumption) ?_
      rotate_left
      · (intro w hSw; (try dsimp only at hSw); (try obtain ⟨hS0, hS1, hS2, hS3, hS4⟩ := hSw); go_simp)
        first | done | with_reducible rfl
      try simp only [Act.put, List.setIfInBounds_toArray, List.set_cons_zero, List.set_cons_succ]
      refine wpAnyH_take (i := 3) (oi := { dst := some 25, op := _, type := _, pos := _, after := _, guard := _ }) (v := ?_) rfl (by kernel_rfl) (by kernel_rfl) (by kernel_rfl) (fun _ _ _ h => h) (Or.inl ⟨by rfl, ?_⟩) (by assumption) ?_
      rotate_left
      · (intro w hSw; (try dsimp only at hSw); (try obtain ⟨hS0, hS1, hS2, hS3, hS4⟩ := hSw); go_simp)
        first | done | with_reducible rfl
      try simp only [Act.put, List.setIfInBounds_toArray, List.set_cons_zero, List.set_cons_succ]
      refine wpAnyH_take (i := 4) (oi := { dst := some 26, op := _, type := _, pos := _, after := _, guard := _ }) (v := ?_) rfl (by kernel_rfl) (by kernel_rfl) (by kernel_rfl) (fun _ _ _ h => h) (Or.inl ⟨by rfl, ?_⟩) (by assumption) ?_
      rotate_left
      · (intro w hSw; (try dsimp only at hSw); (try obtain ⟨hS0, hS1, hS2, hS3, hS4⟩ := hSw); go_simp)
        first | done | with_reducible rfl
      try simp only [Act.put, List.setIfInBounds_toArray, List.set_cons_zero, List.set_cons_succ]
      refine wpAnyH_take (i := 5) (oi := { dst := some 27, op := _, type := _, pos := _, after := _, guard := _ }) (v := ?_) rfl (by kernel_rfl) (by kernel_rfl) (by kernel_rfl) (fun _ _ _ h => h) (Or.inl ⟨by rfl, ?_⟩) (by assumption) ?_
      rotate_left
      · (intro w hSw; (try dsimp only at hSw); (try obtain ⟨hS0, hS1, hS2, hS3, hS4⟩ := hSw); go_simp)
        first | done | with_reducible rfl
      try simp only [Act.put, List.setIfInBounds_toArray, List.set_cons_zero, List.set_cons_succ]
      refine wpAnyH_take (i := 6) (oi := { dst := some 28, op := _, type := _, pos := _, after := _, guard := _ }) (v := ?_) rfl (by kernel_rfl) (by kernel_rfl) (by kernel_rfl) (fun _ _ _ h => h) (Or.inl ⟨by rfl, ?_⟩) (by assumption) ?_
      rotate_left
      · (intro w hSw; (try dsimp only at hSw); (try obtain ⟨hS0, hS1, hS2, hS3, hS4⟩ := hSw); go_simp)
        first | done | with_reducible rfl
      try simp only [Act.put, List.setIfInBounds_toArray, List.set_cons_zero, List.set_cons_succ]
      refine wpAnyH_ready (rs := [2]) (by kernel_rfl) (by simp) ?_
      refine AllReadyH.cons (o := { dst := some 24, op := _, type := _, pos := _, after := _, guard := _ }) rfl (fun K hK => ?_) AllReadyH.nil
      go_simp
      refine (HF.out _).mono ?_
      rintro r w1 ⟨rfl, hw⟩
      have hS10 : (fun W1 => (∀ o, W1.cell? ⟨w.heap.size, o, none⟩ = (#[.int .i64 x.n, .int .i64 x.m.e, .int .i64 x.m.d, .int .i64 x.m.t, .int .i64 x.m.a, .int .i64 x.m.h] : Array Value)[o]?) ∧ (∀ o, W1.cell? ⟨w.heap.size + 1, o, none⟩ = (#[.int .i64 y.n, .int .i64 y.m.e, .int .i64 y.m.d, .int .i64 y.m.t, .int .i64 y.m.a, .int .i64 y.m.h] : Array Value)[o]?) ∧ (∃ cur, W1.heap[w.heap.size + 1 + 1]? = some (.cells cur 32 (0, 0)) ∧ cur.size = 6) ∧ w.heap.size + 1 + 1 < W1.heap.size ∧ Below w.heap.size w W1) w1 := by rw [hw]; exact hS9
      clear hw
      go_wp2_with fail
      refine hK.out _ _ hS10 (fun hH2 => ?_)
      clear hK K hHeld
      rename _ => hHeld
      try simp only [Act.put, List.setIfInBounds_toArray, List.set_cons_zero, List.set_cons_succ]
      refine wpAnyH_ready (rs := [7]) (by kernel_rfl) (by simp) ?_
      refine AllReadyH.cons (o := { dst := some 29, op := _, type := _, pos := _, after := _, guard := _ }) rfl (fun K hK => ?_) AllReadyH.nil
      go_simp
      refine (HO.out _).mono ?_
      rintro r w2 ⟨rfl, hB⟩
      have hS11 := stepS hS10 hB
      clear hB
      go_wp2_with fail
      refine hK.out _ _ hS11 (fun hH2 => ?_)
      clear hK K hHeld
      rename _ => hHeld
      try simp only [Act.put, List.setIfInBounds_toArray, List.set_cons_zero, List.set_cons_succ]
      refine wpAnyH_take (i := 8) (oi := { dst := some 30, op := _, type := _, pos := _, after := _, guard := _ }) (v := ?_) rfl (by kernel_rfl) (by kernel_rfl) (by kernel_rfl) (fun _ _ _ h => h) (Or.inl ⟨by rfl, ?_⟩) (by assumption) ?_
      rotate_left
      · (intro w hSw; (try dsimp only at hSw); (try obtain ⟨hS0, hS1, hS2, hS3, hS4⟩ := hSw); go_simp)
        first | done | with_reducible rfl
      try simp only [Act.put, List.setIfInBounds_toArray, List.set_cons_zero, List.set_cons_succ]
      refine wpAnyH_ready (rs := [9]) (by kernel_rfl) (by simp) ?_
      refine AllReadyH.cons (o := { dst := some 31, op := _, type := _, pos := _, after := _, guard := _ }) rfl (fun K hK => ?_) AllReadyH.nil
      go_simp
      refine (HCK.out _).mono ?_
      rintro r w3 ⟨rfl, hB⟩
      have hS12 := stepS hS11 hB
      clear hB
      go_wp2_with fail
      refine hK.out _ _ hS12 (fun hH2 => ?_)
      clear hK K hHeld
      rename _ => hHeld
      try simp only [Act.put, List.setIfInBounds_toArray, List.set_cons_zero, List.set_cons_succ]
      refine wpAnyH_take (i := 10) (oi := { dst := some 32, op := _, type := _, pos := _, after := _, guard := _ }) (v := ?_) rfl (by kernel_rfl) (by kernel_rfl) (by kernel_rfl) (fun _ _ _ h => h) (Or.inl ⟨by rfl, ?_⟩) (by assumption) ?_
      rotate_left
      · (intro w hSw; (try dsimp only at hSw); (try obtain ⟨hS0, hS1, hS2, hS3, hS4⟩ := hSw); go_simp)
        first | done | with_reducible rfl
      try simp only [Act.put, List.setIfInBounds_toArray, List.set_cons_zero, List.set_cons_succ]
      refine wpAnyH_take (i := 11) (oi := { dst := some 33, op := _, type := _, pos := _, after := _, guard := _ }) (v := ?_) rfl (by kernel_rfl) (by kernel_rfl) (by kernel_rfl) (fun _ _ _ h => h) (Or.inl ⟨by rfl, ?_⟩) (by assumption) ?_
      rotate_left
      · (intro w hSw; (try dsimp only at hSw); (try obtain ⟨hS0, hS1, hS2, hS3, hS4⟩ := hSw); go_simp)
        first | done | with_reducible rfl
      try simp only [Act.put, List.setIfInBounds_toArray, List.set_cons_zero, List.set_cons_succ]
      refine wpAnyH_ready (rs := [12]) (by kernel_rfl) (by simp) ?_
      refine AllReadyH.cons (o := { dst := none, op := _, type := _, pos := _, after := _, guard := _ }) rfl (fun K hK => ?_) AllReadyH.nil
      refine if_wanted rfl ?_
      obtain ⟨cur, hcur, hcs⟩ := hS12.2.2.1
      refine wp_store_row 32 _ _ rfl (w.heap.size + 1 + 1) #[.int .i64 c.1.n, .int .i64 c.1.m.e, .int .i64 c.1.m.d, .int .i64 c.1.m.t, .int .i64 c.1.m.a, .int .i64 c.1.m.h] rfl rfl 32 cur hcur sizeQ hcs (one6 _ _ _ _ _ _) ?_
      have hS13 := storeS (cs := #[.int .i64 c.1.n, .int .i64 c.1.m.e, .int .i64 c.1.m.d, .int .i64 c.1.m.t, .int .i64 c.1.m.a, .int .i64 c.1.m.h]) hS12 rfl
      refine hK.out _ _ hS13 (fun hH2 => ?_)
      clear hK K hHeld
      rename _ => hHeld
      try simp only [Act.put]
      refine wpAnyH_take (i := 13) (oi := { dst := some 5, op := _, type := _, pos := _, after := _, guard := _ }) (v := ?_) rfl (by kernel_rfl) (by kernel_rfl) (by kernel_rfl) (fun _ _ _ h => h) (Or.inl ⟨by rfl, ?_⟩) (by assumption) ?_
      rotate_left
      · (intro w hSw; (try dsimp only at hSw); (try obtain ⟨hS0, hS1, hS2, hS3, hS4⟩ := hSw); go_simp)
        first | done | with_reducible rfl
      try simp only [Act.put, List.setIfInBounds_toArray, List.set_cons_zero, List.set_cons_succ]
      refine wpAnyH_done (by kernel_rfl) ?_ _
      refine NoPanic.normal ?_
      have HB := Lib.hid hS13.2.2.2.2
      have HRES2 := Lib.hid (setRow_heap _ _ _ #[.int .i64 c.1.n, .int .i64 c.1.m.e, .int .i64 c.1.m.d, .int .i64 c.1.m.t, .int .i64 c.1.m.a, .int .i64 c.1.m.h] _ _ hcur)
      clear hHeld hS9 hS10 hS11 hS12 hS13
      go_wp2_with fail
      refine bodyPost_ret (v := .tuple #[.agg #[.int .i64 c.1.n, .int .i64 c.1.m.e, .int .i64 c.1.m.d, .int .i64 c.1.m.t, .int .i64 c.1.m.a, .int .i64 c.1.m.h], .int .i64 c.2]) (results_row_tmp (ty := 32) rfl _ _ (w.heap.size + 1 + 1) 32 #[.int .i64 c.1.n, .int .i64 c.1.m.e, .int .i64 c.1.m.d, .int .i64 c.1.m.t, .int .i64 c.1.m.a, .int .i64 c.1.m.h] (0, 0) _ _ rfl rfl HRES2.out Tryd.underlying32 rfl sizeQ) rfl ⟨?_, HB.out⟩
      rfl
    · have HF := Lib.hid (fun W => rfloor_any x.n y.n W (by omega) (by omega))
      rw [← fdiv_pos _ _ (by omega)] at HF
      have HCK := Lib.hid (fun W => rchecked_any ⟨x.n.fdiv y.n, x.m.over y.m⟩ W)
      generalize chk ⟨x.n.fdiv y.n, x.m.over y.m⟩ = c at *
      generalize x.n.fdiv y.n = qn at *
      go_enter Tryd.func34, Tryd.ntmps34
      go_wp2_with fail
      have hS9 := keepS (w := w) (x := x) (y := y)
      refine wp_region_noPanic ?_
      refine wp_region_held_drew (S := (fun W1 => (∀ o, W1.cell? ⟨w.heap.size, o, none⟩ = (#[.int .i64 x.n, .int .i64 x.m.e, .int .i64 x.m.d, .int .i64 x.m.t, .int .i64 x.m.a, .int .i64 x.m.h] : Array Value)[o]?) ∧ (∀ o, W1.cell? ⟨w.heap.size + 1, o, none⟩ = (#[.int .i64 y.n, .int .i64 y.m.e, .int .i64 y.m.d, .int .i64 y.m.t, .int .i64 y.m.a, .int .i64 y.m.h] : Array Value)[o]?) ∧ (∃ cur, W1.heap[w.heap.size + 1 + 1]? = some (.cells cur 32 (0, 0)) ∧ cur.size = 6) ∧ w.heap.size + 1 + 1 < W1.heap.size ∧ Below w.heap.size w W1)) (by kernel_rfl) (keepS) (fun hHeld => ?_)
      refine wpAnyH_take (i := 0) (oi := { dst := some 22, op := _, type := _, pos := _, after := _, guard := _ }) (v := ?_) rfl (by kernel_rfl) (by kernel_rfl) (by kernel_rfl) (fun _ _ _ h => h) (Or.inl ⟨by rfl, ?_⟩) (by assumption) ?_
      rotate_left
      · (intro w hSw; (try dsimp only at hSw); (try obtain ⟨hS0, hS1, hS2, hS3, hS4⟩ := hSw); go_simp)
        first | done | with_reducible rfl
      try simp only [Act.put, List.setIfInBounds_toArray, List.set_cons_zero, List.set_cons_succ]
      refine wpAnyH_take (i := 1) (oi := { dst := some 23, op := _, type := _, pos := _, after := _, guard := _ }) (v := ?_) rfl (by kernel_rfl) (by kernel_rfl) (by kernel_rfl) (fun _ _ _ h => h) (Or.inl ⟨by rfl, ?_⟩) (by assumption) ?_
      rotate_left
      · (intro w hSw; (try dsimp only at hSw); (try obtain ⟨hS0, hS1, hS2, hS3, hS4⟩ := hSw); go_simp)
        first | done | with_reducible rfl
      try simp only [Act.put, List.setIfInBounds_toArray, List.set_cons_zero, List.set_cons_succ]
      refine wpAnyH_take (i := 3) (oi := { dst := some 25, op := _, type := _, pos := _, after := _, guard := _ }) (v := ?_) rfl (by kernel_rfl) (by kernel_rfl) (by kernel_rfl) (fun _ _ _ h => h) (Or.inl ⟨by rfl, ?_⟩) (by assumption) ?_
      rotate_left
      · (intro w hSw; (try dsimp only at hSw); (try obtain ⟨hS0, hS1, hS2, hS3, hS4⟩ := hSw); go_simp)
        first | done | with_reducible rfl
      try simp only [Act.put, List.setIfInBounds_toArray, List.set_cons_zero, List.set_cons_succ]
      refine wpAnyH_take (i := 4) (oi := { dst := some 26, op := _, type := _, pos := _, after := _, guard := _ }) (v := ?_) rfl (by kernel_rfl) (by kernel_rfl) (by kernel_rfl) (fun _ _ _ h => h) (Or.inl ⟨by rfl, ?_⟩) (by assumption) ?_
      rotate_left
      · (intro w hSw; (try dsimp only at hSw); (try obtain ⟨hS0, hS1, hS2, hS3, hS4⟩ := hSw); go_simp)
        first | done | with_reducible rfl
      try simp only [Act.put, List.setIfInBounds_toArray, List.set_cons_zero, List.set_cons_succ]
      refine wpAnyH_take (i := 5) (oi := { dst := some 27, op := _, type := _, pos := _, after := _, guard := _ }) (v := ?_) rfl (by kernel_rfl) (by kernel_rfl) (by kernel_rfl) (fun _ _ _ h => h) (Or.inl ⟨by rfl, ?_⟩) (by assumption) ?_
      rotate_left
      · (intro w hSw; (try dsimp only at hSw); (try obtain ⟨hS0, hS1, hS2, hS3, hS4⟩ := hSw); go_simp)
        first | done | with_reducible rfl
      try simp only [Act.put, List.setIfInBounds_toArray, List.set_cons_zero, List.set_cons_succ]
      refine wpAnyH_take (i := 6) (oi := { dst := some 28, op := _, type := _, pos := _, after := _, guard := _ }) (v := ?_) rfl (by kernel_rfl) (by kernel_rfl) (by kernel_rfl) (fun _ _ _ h => h) (Or.inl ⟨by rfl, ?_⟩) (by assumption) ?_
      rotate_left
      · (intro w hSw; (try dsimp only at hSw); (try obtain ⟨hS0, hS1, hS2, hS3, hS4⟩ := hSw); go_simp)
        first | done | with_reducible rfl
      try simp only [Act.put, List.setIfInBounds_toArray, List.set_cons_zero, List.set_cons_succ]
      refine wpAnyH_ready (rs := [2]) (by kernel_rfl) (by simp) ?_
      refine AllReadyH.cons (o := { dst := some 24, op := _, type := _, pos := _, after := _, guard := _ }) rfl (fun K hK => ?_) AllReadyH.nil
      go_simp
      refine (HF.out _).mono ?_
      rintro r w1 ⟨rfl, hw⟩
      have hS10 : (fun W1 => (∀ o, W1.cell? ⟨w.heap.size, o, none⟩ = (#[.int .i64 x.n, .int .i64 x.m.e, .int .i64 x.m.d, .int .i64 x.m.t, .int .i64 x.m.a, .int .i64 x.m.h] : Array Value)[o]?) ∧ (∀ o, W1.cell? ⟨w.heap.size + 1, o, none⟩ = (#[.int .i64 y.n, .int .i64 y.m.e, .int .i64 y.m.d, .int .i64 y.m.t, .int .i64 y.m.a, .int .i64 y.m.h] : Array Value)[o]?) ∧ (∃ cur, W1.heap[w.heap.size + 1 + 1]? = some (.cells cur 32 (0, 0)) ∧ cur.size = 6) ∧ w.heap.size + 1 + 1 < W1.heap.size ∧ Below w.heap.size w W1) w1 := by rw [hw]; exact hS9
      clear hw
      go_wp2_with fail
      refine hK.out _ _ hS10 (fun hH2 => ?_)
      clear hK K hHeld
      rename _ => hHeld
      try simp only [Act.put, List.setIfInBounds_toArray, List.set_cons_zero, List.set_cons_succ]
      refine wpAnyH_ready (rs := [7]) (by kernel_rfl) (by simp) ?_
      refine AllReadyH.cons (o := { dst := some 29, op := _, type := _, pos := _, after := _, guard := _ }) rfl (fun K hK => ?_) AllReadyH.nil
      go_simp
      refine (HO.out _).mono ?_
      rintro r w2 ⟨rfl, hB⟩
      have hS11 := stepS hS10 hB
      clear hB
      go_wp2_with fail
      refine hK.out _ _ hS11 (fun hH2 => ?_)
      clear hK K hHeld
      rename _ => hHeld
      try simp only [Act.put, List.setIfInBounds_toArray, List.set_cons_zero, List.set_cons_succ]
      refine wpAnyH_take (i := 8) (oi := { dst := some 30, op := _, type := _, pos := _, after := _, guard := _ }) (v := ?_) rfl (by kernel_rfl) (by kernel_rfl) (by kernel_rfl) (fun _ _ _ h => h) (Or.inl ⟨by rfl, ?_⟩) (by assumption) ?_
      rotate_left
      · (intro w hSw; (try dsimp only at hSw); (try obtain ⟨hS0, hS1, hS2, hS3, hS4⟩ := hSw); go_simp)
        first | done | with_reducible rfl
      try simp only [Act.put, List.setIfInBounds_toArray, List.set_cons_zero, List.set_cons_succ]
      refine wpAnyH_ready (rs := [9]) (by kernel_rfl) (by simp) ?_
      refine AllReadyH.cons (o := { dst := some 31, op := _, type := _, pos := _, after := _, guard := _ }) rfl (fun K hK => ?_) AllReadyH.nil
      go_simp
      refine (HCK.out _).mono ?_
      rintro r w3 ⟨rfl, hB⟩
      have hS12 := stepS hS11 hB
      clear hB
      go_wp2_with fail
      refine hK.out _ _ hS12 (fun hH2 => ?_)
      clear hK K hHeld
      rename _ => hHeld
      try simp only [Act.put, List.setIfInBounds_toArray, List.set_cons_zero, List.set_cons_succ]
      refine wpAnyH_take (i := 10) (oi := { dst := some 32, op := _, type := _, pos := _, after := _, guard := _ }) (v := ?_) rfl (by kernel_rfl) (by kernel_rfl) (by kernel_rfl) (fun _ _ _ h => h) (Or.inl ⟨by rfl, ?_⟩) (by assumption) ?_
      rotate_left
      · (intro w hSw; (try dsimp only at hSw); (try obtain ⟨hS0, hS1, hS2, hS3, hS4⟩ := hSw); go_simp)
        first | done | with_reducible rfl
      try simp only [Act.put, List.setIfInBounds_toArray, List.set_cons_zero, List.set_cons_succ]
      refine wpAnyH_take (i := 11) (oi := { dst := some 33, op := _, type := _, pos := _, after := _, guard := _ }) (v := ?_) rfl (by kernel_rfl) (by kernel_rfl) (by kernel_rfl) (fun _ _ _ h => h) (Or.inl ⟨by rfl, ?_⟩) (by assumption) ?_
      rotate_left
      · (intro w hSw; (try dsimp only at hSw); (try obtain ⟨hS0, hS1, hS2, hS3, hS4⟩ := hSw); go_simp)
        first | done | with_reducible rfl
      try simp only [Act.put, List.setIfInBounds_toArray, List.set_cons_zero, List.set_cons_succ]
      refine wpAnyH_ready (rs := [12]) (by kernel_rfl) (by simp) ?_
      refine AllReadyH.cons (o := { dst := none, op := _, type := _, pos := _, after := _, guard := _ }) rfl (fun K hK => ?_) AllReadyH.nil
      refine if_wanted rfl ?_
      obtain ⟨cur, hcur, hcs⟩ := hS12.2.2.1
      refine wp_store_row 32 _ _ rfl (w.heap.size + 1 + 1) #[.int .i64 c.1.n, .int .i64 c.1.m.e, .int .i64 c.1.m.d, .int .i64 c.1.m.t, .int .i64 c.1.m.a, .int .i64 c.1.m.h] rfl rfl 32 cur hcur sizeQ hcs (one6 _ _ _ _ _ _) ?_
      have hS13 := storeS (cs := #[.int .i64 c.1.n, .int .i64 c.1.m.e, .int .i64 c.1.m.d, .int .i64 c.1.m.t, .int .i64 c.1.m.a, .int .i64 c.1.m.h]) hS12 rfl
      refine hK.out _ _ hS13 (fun hH2 => ?_)
      clear hK K hHeld
      rename _ => hHeld
      try simp only [Act.put]
      refine wpAnyH_take (i := 13) (oi := { dst := some 5, op := _, type := _, pos := _, after := _, guard := _ }) (v := ?_) rfl (by kernel_rfl) (by kernel_rfl) (by kernel_rfl) (fun _ _ _ h => h) (Or.inl ⟨by rfl, ?_⟩) (by assumption) ?_
      rotate_left
      · (intro w hSw; (try dsimp only at hSw); (try obtain ⟨hS0, hS1, hS2, hS3, hS4⟩ := hSw); go_simp)
        first | done | with_reducible rfl
      try simp only [Act.put, List.setIfInBounds_toArray, List.set_cons_zero, List.set_cons_succ]
      refine wpAnyH_done (by kernel_rfl) ?_ _
      refine NoPanic.normal ?_
      have HB := Lib.hid hS13.2.2.2.2
      have HRES2 := Lib.hid (setRow_heap _ _ _ #[.int .i64 c.1.n, .int .i64 c.1.m.e, .int .i64 c.1.m.d, .int .i64 c.1.m.t, .int .i64 c.1.m.a, .int .i64 c.1.m.h] _ _ hcur)
      clear hHeld hS9 hS10 hS11 hS12 hS13
      go_wp2_with fail
      refine bodyPost_ret (v := .tuple #[.agg #[.int .i64 c.1.n, .int .i64 c.1.m.e, .int .i64 c.1.m.d, .int .i64 c.1.m.t, .int .i64 c.1.m.a, .int .i64 c.1.m.h], .int .i64 c.2]) (results_row_tmp (ty := 32) rfl _ _ (w.heap.size + 1 + 1) 32 #[.int .i64 c.1.n, .int .i64 c.1.m.e, .int .i64 c.1.m.d, .int .i64 c.1.m.t, .int .i64 c.1.m.a, .int .i64 c.1.m.h] (0, 0) _ _ rfl rfl HRES2.out Tryd.underlying32 rfl sizeQ) rfl ⟨?_, HB.out⟩
      rfl
end U
end Go.Proofs.YthcehhonahgfmaaDoor
