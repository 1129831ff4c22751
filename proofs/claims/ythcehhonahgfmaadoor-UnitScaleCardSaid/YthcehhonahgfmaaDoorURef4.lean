/-
  Contracts of the specification's functions of dimensions and quantities: Add, Sub, Mul, Floor, Div, Compare.
-/
import Derived.Test.YthcehhonahgfmaaDoorURef3
namespace Go.Proofs.YthcehhonahgfmaaDoor
open Go.RowKit
namespace U
open H
set_option linter.unusedVariables false

theorem bel4 (w : World) (A B C D : Obj) : Below w.heap.size w ((((w.alloc A).alloc B).alloc C).alloc D) := (bel3 w A B C).alloc (by simp; omega) _
theorem b30 (w : World) (A B C : Obj) : (((w.alloc A).alloc B).alloc C).heap[w.heap.size]? = some A := by
  rw [Below.heap_alloc _ _ _ (by simp; omega)]
  exact heap_alloc2_old w A B
theorem b31 (w : World) (A B C : Obj) : (((w.alloc A).alloc B).alloc C).heap[w.heap.size + 1]? = some B := by
  rw [Below.heap_alloc _ _ _ (by simp)]
  exact heap_alloc2_new w A B
theorem b32 (w : World) (A B C : Obj) : (((w.alloc A).alloc B).alloc C).heap[w.heap.size + 1 + 1]? = some C := by
  have h := heap_alloc_new ((w.alloc A).alloc B) C
  have e : ((w.alloc A).alloc B).heap.size = w.heap.size + 1 + 1 := by simp
  rwa [e] at h
theorem s3 (w : World) (A B C : Obj) : (((w.alloc A).alloc B).alloc C).heap.size = w.heap.size + 1 + 1 + 1 := by simp
set_option maxRecDepth 100000 in
set_option maxHeartbeats 1000000 in
theorem radd_any (x y : Qt) (w : World) (hx : -4294967296 ≤ x.n ∧ x.n ≤ 4294967296) (hy : -4294967296 ≤ y.n ∧ y.n ≤ 4294967296) :
    Calls Tryd.prog 28 #[.agg #[.int .i64 x.n, .int .i64 x.m.e, .int .i64 x.m.d, .int .i64 x.m.t, .int .i64 x.m.a, .int .i64 x.m.h], .agg #[.int .i64 y.n, .int .i64 y.m.e, .int .i64 y.m.d, .int .i64 y.m.t, .int .i64 y.m.a, .int .i64 y.m.h]] w fun r w' => r = .returned (.tuple #[.agg #[.int .i64 (addQ x y).1.n, .int .i64 (addQ x y).1.m.e, .int .i64 (addQ x y).1.m.d, .int .i64 (addQ x y).1.m.t, .int .i64 (addQ x y).1.m.a, .int .i64 (addQ x y).1.m.h], .int .i64 (addQ x y).2]) ∧ Below w.heap.size w w' := by
  have HCK := Lib.hid (fun W => rchecked_any ⟨x.n + y.n, x.m⟩ W)
  have hneq := fun W => run_neq_dim x.m y.m W
  have HRES := Lib.hid (b32 w (.cells #[.int .i64 x.n, .int .i64 x.m.e, .int .i64 x.m.d, .int .i64 x.m.t, .int .i64 x.m.a, .int .i64 x.m.h] 32) (.cells #[.int .i64 y.n, .int .i64 y.m.e, .int .i64 y.m.d, .int .i64 y.m.t, .int .i64 y.m.a, .int .i64 y.m.h] 32) (.cells #[.int .i64 0, .int .i64 0, .int .i64 0, .int .i64 0, .int .i64 0, .int .i64 0] 32))
  by_cases hm : x.m = y.m
  · have HA := Lib.hid (show addQ x y = chk ⟨x.n + y.n, x.m⟩ from if_pos hm)
    rw [decide_eq_true hm] at hneq
    have HN := Lib.hid hneq
    clear hm hneq
    go_enter Tryd.func28, Tryd.ntmps28
    go_wp2_with (refine wpList_yield rfl (exec_binop .neq 23 23 (.tmp 7) (.tmp 9) rfl _ _ rfl rfl (run_eqGuard_agg _ _ _ _ _ _ _ (by kernel_rfl)) (HN.out _)) ?_)
    refine (HCK.out _).mono ?_
    rintro r w1 ⟨rfl, hB⟩
    have HRES := Lib.hid ((hB.block (w.heap.size + 1 + 1) (by rw [s3]; omega)).trans HRES.out)
    have HB := Lib.hid ((bel3 w _ _ _).trans (hB.mono (by rw [s3]; omega)))
    clear hB
    generalize chk ⟨x.n + y.n, x.m⟩ = c at *
    go_wp2_with (refine wpList_store_row rfl 32 _ _ rfl (w.heap.size + 1 + 1) #[.int .i64 c.1.n, .int .i64 c.1.m.e, .int .i64 c.1.m.d, .int .i64 c.1.m.t, .int .i64 c.1.m.a, .int .i64 c.1.m.h] rfl rfl 32 _ HRES.out sizeQ rfl (one6 _ _ _ _ _ _) ?_)
    refine bodyPost_ret (v := .tuple #[.agg #[.int .i64 c.1.n, .int .i64 c.1.m.e, .int .i64 c.1.m.d, .int .i64 c.1.m.t, .int .i64 c.1.m.a, .int .i64 c.1.m.h], .int .i64 c.2]) (results_row_tmp (ty := 32) rfl _ _ (w.heap.size + 1 + 1) 32 #[.int .i64 c.1.n, .int .i64 c.1.m.e, .int .i64 c.1.m.d, .int .i64 c.1.m.t, .int .i64 c.1.m.a, .int .i64 c.1.m.h] (0, 0) _ _ rfl rfl (setRow_heap _ _ _ _ _ _ HRES.out) Tryd.underlying32 rfl sizeQ) rfl ⟨?_, below_setRow HB.out (by omega) _⟩
    rw [HA.out]
  · have HA := Lib.hid (show addQ x y = (Qt.zero, 10) from if_neg hm)
    rw [decide_eq_false hm] at hneq
    have HN := Lib.hid hneq
    have HB := Lib.hid (bel3 w (.cells #[.int .i64 x.n, .int .i64 x.m.e, .int .i64 x.m.d, .int .i64 x.m.t, .int .i64 x.m.a, .int .i64 x.m.h] 32) (.cells #[.int .i64 y.n, .int .i64 y.m.e, .int .i64 y.m.d, .int .i64 y.m.t, .int .i64 y.m.a, .int .i64 y.m.h] 32) (.cells #[.int .i64 0, .int .i64 0, .int .i64 0, .int .i64 0, .int .i64 0, .int .i64 0] 32))
    clear hm hneq
    go_enter Tryd.func28, Tryd.ntmps28
    go_wp2_with (first | (refine wpList_yield rfl (exec_binop .neq 23 23 (.tmp 7) (.tmp 9) rfl _ _ rfl rfl (run_eqGuard_agg _ _ _ _ _ _ _ (by kernel_rfl)) (HN.out _)) ?_) | (refine wpList_store_row rfl 32 _ _ rfl (w.heap.size + 1 + 1) #[.int .i64 0, .int .i64 0, .int .i64 0, .int .i64 0, .int .i64 0, .int .i64 0] rfl rfl 32 _ HRES.out sizeQ rfl (one6 _ _ _ _ _ _) ?_))
    refine bodyPost_ret (v := .tuple #[.agg #[.int .i64 0, .int .i64 0, .int .i64 0, .int .i64 0, .int .i64 0, .int .i64 0], .int .i64 10]) (results_row_tmp (ty := 32) rfl _ _ (w.heap.size + 1 + 1) 32 #[.int .i64 0, .int .i64 0, .int .i64 0, .int .i64 0, .int .i64 0, .int .i64 0] (0, 0) _ _ rfl rfl (setRow_heap _ _ _ _ _ _ HRES.out) Tryd.underlying32 rfl sizeQ) rfl ⟨?_, below_setRow HB.out (by omega) _⟩
    rw [HA.out]
    rfl
theorem sub_eq (x y : Qt) : addQ x ⟨-y.n, y.m⟩ = subQ x y := rfl
set_option maxRecDepth 100000 in
set_option maxHeartbeats 1000000 in
theorem rsub_any (x y : Qt) (w : World) (hx : -2147483647 ≤ x.n ∧ x.n ≤ 2147483647) (hy : -2147483647 ≤ y.n ∧ y.n ≤ 2147483647) :
    Calls Tryd.prog 30 #[.agg #[.int .i64 x.n, .int .i64 x.m.e, .int .i64 x.m.d, .int .i64 x.m.t, .int .i64 x.m.a, .int .i64 x.m.h], .agg #[.int .i64 y.n, .int .i64 y.m.e, .int .i64 y.m.d, .int .i64 y.m.t, .int .i64 y.m.a, .int .i64 y.m.h]] w fun r w' => r = .returned (.tuple #[.agg #[.int .i64 (subQ x y).1.n, .int .i64 (subQ x y).1.m.e, .int .i64 (subQ x y).1.m.d, .int .i64 (subQ x y).1.m.t, .int .i64 (subQ x y).1.m.a, .int .i64 (subQ x y).1.m.h], .int .i64 (subQ x y).2]) ∧ Below w.heap.size w w' := by
  have had := fun W => radd_any x ⟨-y.n, y.m⟩ W (by omega) (by show -4294967296 ≤ -y.n ∧ -y.n ≤ 4294967296; omega)
  simp only [sub_eq] at had
  have HAD := Lib.hid had
  clear had
  have HRES := Lib.hid (b32 w (.cells #[.int .i64 x.n, .int .i64 x.m.e, .int .i64 x.m.d, .int .i64 x.m.t, .int .i64 x.m.a, .int .i64 x.m.h] 32) (.cells #[.int .i64 y.n, .int .i64 y.m.e, .int .i64 y.m.d, .int .i64 y.m.t, .int .i64 y.m.a, .int .i64 y.m.h] 32) (.cells #[.int .i64 0, .int .i64 0, .int .i64 0, .int .i64 0, .int .i64 0, .int .i64 0] 32))
  generalize subQ x y = c at *
  go_enter Tryd.func30, Tryd.ntmps30
  go_wp2_with fail
  refine (HAD.out _).mono ?_
  rintro r w1 ⟨rfl, hB⟩
  have HRES := Lib.hid ((hB.block (w.heap.size + 1 + 1) (by rw [s3]; omega)).trans HRES.out)
  have HB := Lib.hid ((bel3 w _ _ _).trans (hB.mono (by rw [s3]; omega)))
  clear hB
  go_wp2_with (refine wpList_store_row rfl 32 _ _ rfl (w.heap.size + 1 + 1) #[.int .i64 c.1.n, .int .i64 c.1.m.e, .int .i64 c.1.m.d, .int .i64 c.1.m.t, .int .i64 c.1.m.a, .int .i64 c.1.m.h] rfl rfl 32 _ HRES.out sizeQ rfl (one6 _ _ _ _ _ _) ?_)
  refine bodyPost_ret (v := .tuple #[.agg #[.int .i64 c.1.n, .int .i64 c.1.m.e, .int .i64 c.1.m.d, .int .i64 c.1.m.t, .int .i64 c.1.m.a, .int .i64 c.1.m.h], .int .i64 c.2]) (results_row_tmp (ty := 32) rfl _ _ (w.heap.size + 1 + 1) 32 #[.int .i64 c.1.n, .int .i64 c.1.m.e, .int .i64 c.1.m.d, .int .i64 c.1.m.t, .int .i64 c.1.m.a, .int .i64 c.1.m.h] (0, 0) _ _ rfl rfl (setRow_heap _ _ _ _ _ _ HRES.out) Tryd.underlying32 rfl sizeQ) rfl ⟨?_, below_setRow HB.out (by omega) _⟩
  rfl
set_option maxRecDepth 100000 in
set_option maxHeartbeats 1000000 in
theorem rcmp_any (x y : Qt) (w : World) :
    Calls Tryd.prog 36 #[.agg #[.int .i64 x.n, .int .i64 x.m.e, .int .i64 x.m.d, .int .i64 x.m.t, .int .i64 x.m.a, .int .i64 x.m.h], .agg #[.int .i64 y.n, .int .i64 y.m.e, .int .i64 y.m.d, .int .i64 y.m.t, .int .i64 y.m.a, .int .i64 y.m.h]] w fun r w' => r = .returned (.tuple #[.int .i64 (cmpQ x y).1, .int .i64 (cmpQ x y).2]) ∧ Below w.heap.size w w' := by
  have hneq := fun W => run_neq_dim x.m y.m W
  by_cases hm : x.m = y.m
  · rw [decide_eq_true hm] at hneq
    have HN := Lib.hid hneq
    by_cases h1 : x.n < y.n
    · have HA := Lib.hid (show cmpQ x y = (-1, 0) by unfold cmpQ; rw [if_pos hm, if_pos h1])
      clear hm hneq
      go_enter Tryd.func36, Tryd.ntmps36
      go_wp2_with (refine wpList_yield rfl (exec_binop .neq 23 23 (.tmp 7) (.tmp 9) rfl _ _ rfl rfl (run_eqGuard_agg _ _ _ _ _ _ _ (by kernel_rfl)) (HN.out _)) ?_)
      go_ret2
      exact ⟨by rw [HA.out]; rfl, bel2 w _ _⟩
    · by_cases h2 : y.n < x.n
      · have HA := Lib.hid (show cmpQ x y = (1, 0) by unfold cmpQ; rw [if_pos hm, if_neg h1, if_pos h2])
        clear hm hneq
        go_enter Tryd.func36, Tryd.ntmps36
        go_wp2_with (refine wpList_yield rfl (exec_binop .neq 23 23 (.tmp 7) (.tmp 9) rfl _ _ rfl rfl (run_eqGuard_agg _ _ _ _ _ _ _ (by kernel_rfl)) (HN.out _)) ?_)
        go_ret2
        exact ⟨by rw [HA.out]; rfl, bel2 w _ _⟩
      · have HA := Lib.hid (show cmpQ x y = (0, 0) by unfold cmpQ; rw [if_pos hm, if_neg h1, if_neg h2])
        clear hm hneq
        go_enter Tryd.func36, Tryd.ntmps36
        go_wp2_with (refine wpList_yield rfl (exec_binop .neq 23 23 (.tmp 7) (.tmp 9) rfl _ _ rfl rfl (run_eqGuard_agg _ _ _ _ _ _ _ (by kernel_rfl)) (HN.out _)) ?_)
        go_ret2
        exact ⟨by rw [HA.out]; rfl, bel2 w _ _⟩
  · have HA := Lib.hid (show cmpQ x y = (0, 10) from if_neg hm)
    rw [decide_eq_false hm] at hneq
    have HN := Lib.hid hneq
    clear hm hneq
    go_enter Tryd.func36, Tryd.ntmps36
    go_wp2_with (refine wpList_yield rfl (exec_binop .neq 23 23 (.tmp 7) (.tmp 9) rfl _ _ rfl rfl (run_eqGuard_agg _ _ _ _ _ _ _ (by kernel_rfl)) (HN.out _)) ?_)
    go_ret2
    exact ⟨by rw [HA.out]; rfl, bel2 w _ _⟩
theorem floor_eq (a b : Int) (hb : 1 ≤ b) : a / b = if a.tmod b < 0 then a.tdiv b - 1 else a.tdiv b := by
  rw [Int.tdiv_eq_ediv, Int.tmod_eq_emod]
  have h1 := Int.emod_nonneg a (show b ≠ 0 by omega)
  have h2 := Int.emod_lt_of_pos a (show 0 < b by omega)
  have hs : b.sign = 1 := Int.sign_eq_one_of_pos (by omega)
  have hn : (b.natAbs : Int) = b := Int.natAbs_of_nonneg (by omega)
  by_cases hc : 0 ≤ a ∨ b ∣ a
  · rw [if_pos hc, if_pos hc, if_neg (by omega)]; omega
  · rw [if_neg hc, if_neg hc, if_pos (by omega), hs]; omega
theorem tdiv_bd (a b : Int) (ha : -4294967296 ≤ a ∧ a ≤ 4294967296) (hb : 1 ≤ b) : -4294967296 ≤ a.tdiv b ∧ a.tdiv b ≤ 4294967296 := by
  have h := Int.natAbs_tdiv a b
  have h2 : a.natAbs / b.natAbs ≤ a.natAbs := Nat.div_le_self _ _
  have h3 : (a.tdiv b).natAbs ≤ a.natAbs := by rw [h]; exact h2
  omega
set_option maxRecDepth 100000 in
set_option maxHeartbeats 1000000 in
theorem rfloor_any (a b : Int) (w : World) (ha : -4294967296 ≤ a ∧ a ≤ 4294967296) (hb : 1 ≤ b ∧ b ≤ 4294967296) :
    Calls Tryd.prog 50 #[.int .i64 a, .int .i64 b] w fun r w' => r = .returned (.int .i64 (a / b)) ∧ w' = w := by
  have hq := tdiv_bd a b ha hb.1
  have hf := floor_eq a b hb.1
  by_cases h : a.tmod b < 0
  · rw [if_pos h] at hf
    rw [hf]
    clear hf
    go_enter Tryd.func50, Tryd.ntmps50
    go_wp2_with fail
    go_ret
    exact ⟨rfl, rfl⟩
  · rw [if_neg h] at hf
    rw [hf]
    clear hf
    go_enter Tryd.func50, Tryd.ntmps50
    go_wp2_with fail
    go_ret
    exact ⟨rfl, rfl⟩
end U
end Go.Proofs.YthcehhonahgfmaaDoor
