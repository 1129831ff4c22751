/-
  Contracts of the program's functions of quantities: Add, Sub, Mul, Div, Compare.
-/
import Derived.Test.YthcehhonahgfmaaDoorUP2
namespace Go.Proofs.YthcehhonahgfmaaDoor
open Go.RowKit
namespace U
open H
set_option linter.unusedVariables false

set_option maxRecDepth 100000 in
set_option maxHeartbeats 1000000 in
theorem padd_any (x y : Qt) (w : World) (hx : -4294967296 ≤ x.n ∧ x.n ≤ 4294967296) (hy : -4294967296 ≤ y.n ∧ y.n ≤ 4294967296) :
    Calls Tryd.prog 27 #[.agg #[.int .i64 x.n, .int .i64 x.m.e, .int .i64 x.m.d, .int .i64 x.m.t, .int .i64 x.m.a, .int .i64 x.m.h], .agg #[.int .i64 y.n, .int .i64 y.m.e, .int .i64 y.m.d, .int .i64 y.m.t, .int .i64 y.m.a, .int .i64 y.m.h]] w fun r w' => r = .returned (.tuple #[.agg #[.int .i64 (addQ x y).1.n, .int .i64 (addQ x y).1.m.e, .int .i64 (addQ x y).1.m.d, .int .i64 (addQ x y).1.m.t, .int .i64 (addQ x y).1.m.a, .int .i64 (addQ x y).1.m.h], .int .i64 (addQ x y).2]) ∧ Below w.heap.size w w' := by
  have HCK := Lib.hid (fun W => pchecked_any ⟨x.n + y.n, x.m⟩ W)
  have hneq := fun W => run_neq_dim x.m y.m W
  have HRES := Lib.hid (b32 w (.cells #[.int .i64 x.n, .int .i64 x.m.e, .int .i64 x.m.d, .int .i64 x.m.t, .int .i64 x.m.a, .int .i64 x.m.h] 32) (.cells #[.int .i64 y.n, .int .i64 y.m.e, .int .i64 y.m.d, .int .i64 y.m.t, .int .i64 y.m.a, .int .i64 y.m.h] 32) (.cells #[.int .i64 0, .int .i64 0, .int .i64 0, .int .i64 0, .int .i64 0, .int .i64 0] 32))
  by_cases hm : x.m = y.m
  · have HA := Lib.hid (show addQ x y = chk ⟨x.n + y.n, x.m⟩ from if_pos hm)
    rw [decide_eq_true hm] at hneq
    have HN := Lib.hid hneq
    clear hm hneq
    go_enter Tryd.func27, Tryd.ntmps27
    go_wp2_with (refine wpList_yield rfl (exec_binop .neq 23 23 (.tmp 7) (.tmp 9) rfl _ _ rfl rfl (run_eqGuard_agg _ _ _ _ _ _ _ (by kernel_rfl)) (HN.out _)) ?_)
    refine (HCK.out _).mono ?_
    rintro r w1 ⟨rfl, hB⟩
    have HRES := Lib.hid ((hB.block (w.heap.size + 1 + 1) (by rw [s3]; omega)).trans HRES.out)
    have HB := Lib.hid ((bel3 w _ _ _).trans (hB.mono (by rw [s3]; omega)))
    clear hB
    generalize chk ⟨x.n + y.n, x.m⟩ = c at *
    go_wp2_with (refine wpList_store_row rfl 32 _ _ rfl (w.heap.size + 1 + 1) #[.int .i64 c.1.n, .int .i64 c.1.m.e, .int .i64 c.1.m.d, .int .i64 c.1.m.t, .int .i64 c.1.m.a, .int .i64 c.1.m.h] rfl rfl 32 _ HRES.out sizeQ rfl (one6 _ _ _ _ _ _) ?_)
    refine bodyPost_ret (v := .tuple #[.agg #[.int .i64 c.1.n, .int .i64 c.1.m.e, .int .i64 c.1.m.d, .int .i64 c.1.m.t, .int .i64 c.1.m.a, .int .i64 c.1.m.h], .int .i64 c.2]) (results_row_tmp (ty := 32) rfl _ _ (w.heap.size + 1 + 1) 32 #[.int .i64 c.1.n, .int .i64 c.1.m.e, .int .i64 c.1.m.d, .int .i64 c.1.m.t, .int .i64 c.1.m.a, .int .i64 c.1.m.h] (0, 0) _ _ rfl rfl (setRow_heap _ _ _ _ _ _ HRES.out) Tryd.underlying32 rfl sizeQ) rfl ⟨?_, below_setRow HB.out (by omega) _⟩
    rw [HA.out]
  · have HA := Lib.hid (show addQ x y = (Qt.zero, 10) from if_neg hm)
    rw [decide_eq_false hm] at hneq
    have HN := Lib.hid hneq
    have HB := Lib.hid (bel3 w (.cells #[.int .i64 x.n, .int .i64 x.m.e, .int .i64 x.m.d, .int .i64 x.m.t, .int .i64 x.m.a, .int .i64 x.m.h] 32) (.cells #[.int .i64 y.n, .int .i64 y.m.e, .int .i64 y.m.d, .int .i64 y.m.t, .int .i64 y.m.a, .int .i64 y.m.h] 32) (.cells #[.int .i64 0, .int .i64 0, .int .i64 0, .int .i64 0, .int .i64 0, .int .i64 0] 32))
    clear hm hneq
    go_enter Tryd.func27, Tryd.ntmps27
    go_wp2_with (first | (refine wpList_yield rfl (exec_binop .neq 23 23 (.tmp 7) (.tmp 9) rfl _ _ rfl rfl (run_eqGuard_agg _ _ _ _ _ _ _ (by kernel_rfl)) (HN.out _)) ?_) | (refine wpList_store_row rfl 32 _ _ rfl (w.heap.size + 1 + 1) #[.int .i64 0, .int .i64 0, .int .i64 0, .int .i64 0, .int .i64 0, .int .i64 0] rfl rfl 32 _ HRES.out sizeQ rfl (one6 _ _ _ _ _ _) ?_))
    refine bodyPost_ret (v := .tuple #[.agg #[.int .i64 0, .int .i64 0, .int .i64 0, .int .i64 0, .int .i64 0, .int .i64 0], .int .i64 10]) (results_row_tmp (ty := 32) rfl _ _ (w.heap.size + 1 + 1) 32 #[.int .i64 0, .int .i64 0, .int .i64 0, .int .i64 0, .int .i64 0, .int .i64 0] (0, 0) _ _ rfl rfl (setRow_heap _ _ _ _ _ _ HRES.out) Tryd.underlying32 rfl sizeQ) rfl ⟨?_, below_setRow HB.out (by omega) _⟩
    rw [HA.out]
    rfl
set_option maxRecDepth 100000 in
set_option maxHeartbeats 1000000 in
theorem psub_any (x y : Qt) (w : World) (hx : -4294967296 ≤ x.n ∧ x.n ≤ 4294967296) (hy : -4294967296 ≤ y.n ∧ y.n ≤ 4294967296) :
    Calls Tryd.prog 29 #[.agg #[.int .i64 x.n, .int .i64 x.m.e, .int .i64 x.m.d, .int .i64 x.m.t, .int .i64 x.m.a, .int .i64 x.m.h], .agg #[.int .i64 y.n, .int .i64 y.m.e, .int .i64 y.m.d, .int .i64 y.m.t, .int .i64 y.m.a, .int .i64 y.m.h]] w fun r w' => r = .returned (.tuple #[.agg #[.int .i64 (subQ x y).1.n, .int .i64 (subQ x y).1.m.e, .int .i64 (subQ x y).1.m.d, .int .i64 (subQ x y).1.m.t, .int .i64 (subQ x y).1.m.a, .int .i64 (subQ x y).1.m.h], .int .i64 (subQ x y).2]) ∧ Below w.heap.size w w' := by
  have HCK := Lib.hid (fun W => pchecked_any ⟨x.n - y.n, x.m⟩ W)
  have hneq := fun W => run_neq_dim x.m y.m W
  have HRES := Lib.hid (b32 w (.cells #[.int .i64 x.n, .int .i64 x.m.e, .int .i64 x.m.d, .int .i64 x.m.t, .int .i64 x.m.a, .int .i64 x.m.h] 32) (.cells #[.int .i64 y.n, .int .i64 y.m.e, .int .i64 y.m.d, .int .i64 y.m.t, .int .i64 y.m.a, .int .i64 y.m.h] 32) (.cells #[.int .i64 0, .int .i64 0, .int .i64 0, .int .i64 0, .int .i64 0, .int .i64 0] 32))
  by_cases hm : x.m = y.m
  · have HA := Lib.hid (show subQ x y = chk ⟨x.n - y.n, x.m⟩ from if_pos hm)
    rw [decide_eq_true hm] at hneq
    have HN := Lib.hid hneq
    clear hm hneq
    go_enter Tryd.func29, Tryd.ntmps29
    go_wp2_with (refine wpList_yield rfl (exec_binop .neq 23 23 (.tmp 7) (.tmp 9) rfl _ _ rfl rfl (run_eqGuard_agg _ _ _ _ _ _ _ (by kernel_rfl)) (HN.out _)) ?_)
    refine (HCK.out _).mono ?_
    rintro r w1 ⟨rfl, hB⟩
    have HRES := Lib.hid ((hB.block (w.heap.size + 1 + 1) (by rw [s3]; omega)).trans HRES.out)
    have HB := Lib.hid ((bel3 w _ _ _).trans (hB.mono (by rw [s3]; omega)))
    clear hB
    generalize chk ⟨x.n - y.n, x.m⟩ = c at *
    go_wp2_with (refine wpList_store_row rfl 32 _ _ rfl (w.heap.size + 1 + 1) #[.int .i64 c.1.n, .int .i64 c.1.m.e, .int .i64 c.1.m.d, .int .i64 c.1.m.t, .int .i64 c.1.m.a, .int .i64 c.1.m.h] rfl rfl 32 _ HRES.out sizeQ rfl (one6 _ _ _ _ _ _) ?_)
    refine bodyPost_ret (v := .tuple #[.agg #[.int .i64 c.1.n, .int .i64 c.1.m.e, .int .i64 c.1.m.d, .int .i64 c.1.m.t, .int .i64 c.1.m.a, .int .i64 c.1.m.h], .int .i64 c.2]) (results_row_tmp (ty := 32) rfl _ _ (w.heap.size + 1 + 1) 32 #[.int .i64 c.1.n, .int .i64 c.1.m.e, .int .i64 c.1.m.d, .int .i64 c.1.m.t, .int .i64 c.1.m.a, .int .i64 c.1.m.h] (0, 0) _ _ rfl rfl (setRow_heap _ _ _ _ _ _ HRES.out) Tryd.underlying32 rfl sizeQ) rfl ⟨?_, below_setRow HB.out (by omega) _⟩
    rw [HA.out]
  · have HA := Lib.hid (show subQ x y = (Qt.zero, 10) from if_neg hm)
    rw [decide_eq_false hm] at hneq
    have HN := Lib.hid hneq
    have HB := Lib.hid (bel3 w (.cells #[.int .i64 x.n, .int .i64 x.m.e, .int .i64 x.m.d, .int .i64 x.m.t, .int .i64 x.m.a, .int .i64 x.m.h] 32) (.cells #[.int .i64 y.n, .int .i64 y.m.e, .int .i64 y.m.d, .int .i64 y.m.t, .int .i64 y.m.a, .int .i64 y.m.h] 32) (.cells #[.int .i64 0, .int .i64 0, .int .i64 0, .int .i64 0, .int .i64 0, .int .i64 0] 32))
    clear hm hneq
    go_enter Tryd.func29, Tryd.ntmps29
    go_wp2_with (first | (refine wpList_yield rfl (exec_binop .neq 23 23 (.tmp 7) (.tmp 9) rfl _ _ rfl rfl (run_eqGuard_agg _ _ _ _ _ _ _ (by kernel_rfl)) (HN.out _)) ?_) | (refine wpList_store_row rfl 32 _ _ rfl (w.heap.size + 1 + 1) #[.int .i64 0, .int .i64 0, .int .i64 0, .int .i64 0, .int .i64 0, .int .i64 0] rfl rfl 32 _ HRES.out sizeQ rfl (one6 _ _ _ _ _ _) ?_))
    refine bodyPost_ret (v := .tuple #[.agg #[.int .i64 0, .int .i64 0, .int .i64 0, .int .i64 0, .int .i64 0, .int .i64 0], .int .i64 10]) (results_row_tmp (ty := 32) rfl _ _ (w.heap.size + 1 + 1) 32 #[.int .i64 0, .int .i64 0, .int .i64 0, .int .i64 0, .int .i64 0, .int .i64 0] (0, 0) _ _ rfl rfl (setRow_heap _ _ _ _ _ _ HRES.out) Tryd.underlying32 rfl sizeQ) rfl ⟨?_, below_setRow HB.out (by omega) _⟩
    rw [HA.out]
    rfl
set_option maxRecDepth 100000 in
set_option maxHeartbeats 1000000 in
theorem pmul_any (x y : Qt) (w : World) (hx : x.valid) (hy : y.valid) :
    Calls Tryd.prog 31 #[.agg #[.int .i64 x.n, .int .i64 x.m.e, .int .i64 x.m.d, .int .i64 x.m.t, .int .i64 x.m.a, .int .i64 x.m.h], .agg #[.int .i64 y.n, .int .i64 y.m.e, .int .i64 y.m.d, .int .i64 y.m.t, .int .i64 y.m.a, .int .i64 y.m.h]] w fun r w' => r = .returned (.tuple #[.agg #[.int .i64 (mulQ x y).1.n, .int .i64 (mulQ x y).1.m.e, .int .i64 (mulQ x y).1.m.d, .int .i64 (mulQ x y).1.m.t, .int .i64 (mulQ x y).1.m.a, .int .i64 (mulQ x y).1.m.h], .int .i64 (mulQ x y).2]) ∧ Below w.heap.size w w' := by
  have HCK := Lib.hid (fun W => pchecked_any ⟨x.n * y.n, x.m.times y.m⟩ W)
  have HT := Lib.hid (fun W => ptimes_any x.m y.m W (by have := hx.2; unfold Dm.in at *; omega) (by have := hy.2; unfold Dm.in at *; omega))
  have hb := mul_bd hx.1 hy.1
  clear hx hy
  have hM : mulQ x y = chk ⟨x.n * y.n, x.m.times y.m⟩ := rfl
  rw [hM]
  clear hM
  have hwr : IntKind.i64.wrap (x.n * y.n) = x.n * y.n := IntWalk.i64_in _ (by omega)
  clear hb
  generalize chk ⟨x.n * y.n, x.m.times y.m⟩ = c at *
  go_enter Tryd.func31, Tryd.ntmps31
  go_wp2_with fail
  have hS9 := keepS (w := w) (x := x) (y := y)
  refine wp_region_noPanic ?_
  refine wp_region_held_drew (S := (fun W1 => (∀ o, W1.cell? ⟨w.heap.size, o, none⟩ = (#[.int .i64 x.n, .int .i64 x.m.e, .int .i64 x.m.d, .int .i64 x.m.t, .int .i64 x.m.a, .int .i64 x.m.h] : Array Value)[o]?) ∧ (∀ o, W1.cell? ⟨w.heap.size + 1, o, none⟩ = (#[.int .i64 y.n, .int .i64 y.m.e, .int .i64 y.m.d, .int .i64 y.m.t, .int .i64 y.m.a, .int .i64 y.m.h] : Array Value)[o]?) ∧ (∃ cur, W1.heap[w.heap.size + 1 + 1]? = some (.cells cur 32 (0, 0)) ∧ cur.size = 6) ∧ w.heap.size + 1 + 1 < W1.heap.size ∧ Below w.heap.size w W1)) (by kernel_rfl) (keepS) (fun hHeld => ?_)
  refine wpAnyH_take (i := 0) (oi := { dst := some 6, op := _, type := _, pos := _, after := _, guard := _ }) (v := ?_) rfl (by kernel_rfl) (by kernel_rfl) (by kernel_rfl) (fun _ _ _ h => h) (Or.inl ⟨by rfl, ?_⟩) (by assumption) ?_
  rotate_left
  · (intro w hSw; (try dsimp only at hSw); (try obtain ⟨hS0, hS1, hS2, hS3, hS4⟩ := hSw); go_simp)
    first | done | with_reducible rfl
  try simp only [Act.put, List.setIfInBounds_toArray, List.set_cons_zero, List.set_cons_succ]
  refine wpAnyH_take (i := 1) (oi := { dst := some 7, op := _, type := _, pos := _, after := _, guard := _ }) (v := ?_) rfl (by kernel_rfl) (by kernel_rfl) (by kernel_rfl) (fun _ _ _ h => h) (Or.inl ⟨by rfl, ?_⟩) (by assumption) ?_
  rotate_left
  · (intro w hSw; (try dsimp only at hSw); (try obtain ⟨hS0, hS1, hS2, hS3, hS4⟩ := hSw); go_simp)
    first | done | with_reducible rfl
  try simp only [Act.put, List.setIfInBounds_toArray, List.set_cons_zero, List.set_cons_succ]
  refine wpAnyH_take (i := 2) (oi := { dst := some 8, op := _, type := _, pos := _, after := _, guard := _ }) (v := ?_) rfl (by kernel_rfl) (by kernel_rfl) (by kernel_rfl) (fun _ _ _ h => h) (Or.inl ⟨by rfl, ?_⟩) (by assumption) ?_
  rotate_left
  · (intro w hSw; (try dsimp only at hSw); (try obtain ⟨hS0, hS1, hS2, hS3, hS4⟩ := hSw); go_simp)
    first | done | with_reducible rfl
  try simp only [Act.put, List.setIfInBounds_toArray, List.set_cons_zero, List.set_cons_succ]
  refine wpAnyH_take (i := 3) (oi := { dst := some 9, op := _, type := _, pos := _, after := _, guard := _ }) (v := ?_) rfl (by kernel_rfl) (by kernel_rfl) (by kernel_rfl) (fun _ _ _ h => h) (Or.inl ⟨by rfl, ?_⟩) (by assumption) ?_
  rotate_left
  · (intro w hSw; (try dsimp only at hSw); (try obtain ⟨hS0, hS1, hS2, hS3, hS4⟩ := hSw); go_simp)
    first | done | with_reducible rfl
  try simp only [Act.put, List.setIfInBounds_toArray, List.set_cons_zero, List.set_cons_succ]
  refine wpAnyH_take (i := 4) (oi := { dst := some 10, op := _, type := _, pos := _, after := _, guard := _ }) (v := ?_) rfl (by kernel_rfl) (by kernel_rfl) (by kernel_rfl) (fun _ _ _ h => h) (Or.inl ⟨by rfl, ?_⟩) (by assumption) ?_
  rotate_left
  · (intro w hSw; (try dsimp only at hSw); (try obtain ⟨hS0, hS1, hS2, hS3, hS4⟩ := hSw); go_simp)
    first | done | with_reducible rfl
  try simp only [Act.put, List.setIfInBounds_toArray, List.set_cons_zero, List.set_cons_succ]
  refine wpAnyH_take (i := 5) (oi := { dst := some 11, op := _, type := _, pos := _, after := _, guard := _ }) (v := ?_) rfl (by kernel_rfl) (by kernel_rfl) (by kernel_rfl) (fun _ _ _ h => h) (Or.inl ⟨by rfl, ?_⟩) (by assumption) ?_
  rotate_left
  · (intro w hSw; (try dsimp only at hSw); (try obtain ⟨hS0, hS1, hS2, hS3, hS4⟩ := hSw); go_simp)
    first | done | with_reducible rfl
  try simp only [Act.put, List.setIfInBounds_toArray, List.set_cons_zero, List.set_cons_succ]
  refine wpAnyH_take (i := 6) (oi := { dst := some 12, op := _, type := _, pos := _, after := _, guard := _ }) (v := ?_) rfl (by kernel_rfl) (by kernel_rfl) (by kernel_rfl) (fun _ _ _ h => h) (Or.inl ⟨by rfl, ?_⟩) (by assumption) ?_
  rotate_left
  · (intro w hSw; (try dsimp only at hSw); (try obtain ⟨hS0, hS1, hS2, hS3, hS4⟩ := hSw); go_simp)
    first | done | with_reducible rfl
  try simp only [Act.put, List.setIfInBounds_toArray, List.set_cons_zero, List.set_cons_succ]
  refine wpAnyH_take (i := 7) (oi := { dst := some 13, op := _, type := _, pos := _, after := _, guard := _ }) (v := ?_) rfl (by kernel_rfl) (by kernel_rfl) (by kernel_rfl) (fun _ _ _ h => h) (Or.inl ⟨by rfl, ?_⟩) (by assumption) ?_
  rotate_left
  · (intro w hSw; (try dsimp only at hSw); (try obtain ⟨hS0, hS1, hS2, hS3, hS4⟩ := hSw); go_simp)
    first | done | with_reducible rfl
  try simp only [Act.put, List.setIfInBounds_toArray, List.set_cons_zero, List.set_cons_succ]
  refine wpAnyH_take (i := 8) (oi := { dst := some 14, op := _, type := _, pos := _, after := _, guard := _ }) (v := ?_) rfl (by kernel_rfl) (by kernel_rfl) (by kernel_rfl) (fun _ _ _ h => h) (Or.inl ⟨by rfl, ?_⟩) (by assumption) ?_
  rotate_left
  · (intro w hSw; (try dsimp only at hSw); (try obtain ⟨hS0, hS1, hS2, hS3, hS4⟩ := hSw); go_simp)
    first | done | with_reducible rfl
  try simp only [Act.put, List.setIfInBounds_toArray, List.set_cons_zero, List.set_cons_succ]
  refine wpAnyH_ready (rs := [9]) (by kernel_rfl) (by simp) ?_
  refine AllReadyH.cons (o := { dst := some 15, op := _, type := _, pos := _, after := _, guard := _ }) rfl (fun K hK => ?_) AllReadyH.nil
  go_simp
  refine (HT.out _).mono ?_
  rintro r w1 ⟨rfl, hB⟩
  have hS10 := stepS hS9 hB
  clear hB
  go_wp2_with fail
  refine hK.out _ _ hS10 (fun hH2 => ?_)
  clear hK K hHeld
  rename _ => hHeld
  try simp only [Act.put, List.setIfInBounds_toArray, List.set_cons_zero, List.set_cons_succ]
  refine wpAnyH_take (i := 10) (oi := { dst := some 16, op := _, type := _, pos := _, after := _, guard := _ }) (v := ?_) rfl (by kernel_rfl) (by kernel_rfl) (by kernel_rfl) (fun _ _ _ h => h) (Or.inl ⟨by rfl, ?_⟩) (by assumption) ?_
  rotate_left
  · (intro w hSw; (try dsimp only at hSw); (try obtain ⟨hS0, hS1, hS2, hS3, hS4⟩ := hSw); go_simp)
    first | done | with_reducible rfl
  try simp only [Act.put, List.setIfInBounds_toArray, List.set_cons_zero, List.set_cons_succ]
  refine wpAnyH_ready (rs := [11]) (by kernel_rfl) (by simp) ?_
  refine AllReadyH.cons (o := { dst := some 17, op := _, type := _, pos := _, after := _, guard := _ }) rfl (fun K hK => ?_) AllReadyH.nil
  go_simp
  refine (HCK.out _).mono ?_
  rintro r w2 ⟨rfl, hB⟩
  have hS11 := stepS hS10 hB
  clear hB
  go_wp2_with fail
  refine hK.out _ _ hS11 (fun hH2 => ?_)
  clear hK K hHeld
  rename _ => hHeld
  try simp only [Act.put, List.setIfInBounds_toArray, List.set_cons_zero, List.set_cons_succ]
  refine wpAnyH_take (i := 12) (oi := { dst := some 18, op := _, type := _, pos := _, after := _, guard := _ }) (v := ?_) rfl (by kernel_rfl) (by kernel_rfl) (by kernel_rfl) (fun _ _ _ h => h) (Or.inl ⟨by rfl, ?_⟩) (by assumption) ?_
  rotate_left
  · (intro w hSw; (try dsimp only at hSw); (try obtain ⟨hS0, hS1, hS2, hS3, hS4⟩ := hSw); go_simp)
    first | done | with_reducible rfl
  try simp only [Act.put, List.setIfInBounds_toArray, List.set_cons_zero, List.set_cons_succ]
  refine wpAnyH_take (i := 13) (oi := { dst := some 19, op := _, type := _, pos := _, after := _, guard := _ }) (v := ?_) rfl (by kernel_rfl) (by kernel_rfl) (by kernel_rfl) (fun _ _ _ h => h) (Or.inl ⟨by rfl, ?_⟩) (by assumption) ?_
  rotate_left
  · (intro w hSw; (try dsimp only at hSw); (try obtain ⟨hS0, hS1, hS2, hS3, hS4⟩ := hSw); go_simp)
    first | done | with_reducible rfl
  try simp only [Act.put, List.setIfInBounds_toArray, List.set_cons_zero, List.set_cons_succ]
  refine wpAnyH_ready (rs := [14]) (by kernel_rfl) (by simp) ?_
  refine AllReadyH.cons (o := { dst := none, op := _, type := _, pos := _, after := _, guard := _ }) rfl (fun K hK => ?_) AllReadyH.nil
  refine if_wanted rfl ?_
  obtain ⟨cur, hcur, hcs⟩ := hS11.2.2.1
  refine wp_store_row 32 _ _ rfl (w.heap.size + 1 + 1) #[.int .i64 c.1.n, .int .i64 c.1.m.e, .int .i64 c.1.m.d, .int .i64 c.1.m.t, .int .i64 c.1.m.a, .int .i64 c.1.m.h] rfl rfl 32 cur hcur sizeQ hcs (one6 _ _ _ _ _ _) ?_
  have hS12 := storeS (cs := #[.int .i64 c.1.n, .int .i64 c.1.m.e, .int .i64 c.1.m.d, .int .i64 c.1.m.t, .int .i64 c.1.m.a, .int .i64 c.1.m.h]) hS11 rfl
  refine hK.out _ _ hS12 (fun hH2 => ?_)
  clear hK K hHeld
  rename _ => hHeld
  try simp only [Act.put]
  refine wpAnyH_take (i := 15) (oi := { dst := some 5, op := _, type := _, pos := _, after := _, guard := _ }) (v := ?_) rfl (by kernel_rfl) (by kernel_rfl) (by kernel_rfl) (fun _ _ _ h => h) (Or.inl ⟨by rfl, ?_⟩) (by assumption) ?_
  rotate_left
  · (intro w hSw; (try dsimp only at hSw); (try obtain ⟨hS0, hS1, hS2, hS3, hS4⟩ := hSw); go_simp)
    first | done | with_reducible rfl
  try simp only [Act.put, List.setIfInBounds_toArray, List.set_cons_zero, List.set_cons_succ]
  refine wpAnyH_done (by kernel_rfl) ?_ _
  refine NoPanic.normal ?_
  have HB := Lib.hid hS12.2.2.2.2
  have HRES2 := Lib.hid (setRow_heap _ _ _ #[.int .i64 c.1.n, .int .i64 c.1.m.e, .int .i64 c.1.m.d, .int .i64 c.1.m.t, .int .i64 c.1.m.a, .int .i64 c.1.m.h] _ _ hcur)
  clear hHeld hS9 hS10 hS11 hS12
  go_wp2_with fail
  refine bodyPost_ret (v := .tuple #[.agg #[.int .i64 c.1.n, .int .i64 c.1.m.e, .int .i64 c.1.m.d, .int .i64 c.1.m.t, .int .i64 c.1.m.a, .int .i64 c.1.m.h], .int .i64 c.2]) (results_row_tmp (ty := 32) rfl _ _ (w.heap.size + 1 + 1) 32 #[.int .i64 c.1.n, .int .i64 c.1.m.e, .int .i64 c.1.m.d, .int .i64 c.1.m.t, .int .i64 c.1.m.a, .int .i64 c.1.m.h] (0, 0) _ _ rfl rfl HRES2.out Tryd.underlying32 rfl sizeQ) rfl ⟨?_, HB.out⟩
  rfl
end U
end Go.Proofs.YthcehhonahgfmaaDoor
