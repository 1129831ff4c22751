/-
  Contracts of the specification's functions of dimensions and quantities: Valid, checked, Add.
-/
import Derived.Test.YthcehhonahgfmaaDoorURef2
import Derived.Test.YthcehhonahgfmaaDoorArr
import Derived.Laws.Tables
import Derived.Laws.Rows
import Derived.Laws.CopyOwn
import Derived.Deep.RegionHeld3
namespace Go.Proofs.YthcehhonahgfmaaDoor
open Go.RowKit
namespace U
open H
set_option linter.unusedVariables false

theorem sizeQ : (Tryd.prog.info? 32).map (·.size) = some 6 := by kernel_rfl
theorem one6 (a b c d e f : Int) : (#[Value.int .i64 a, .int .i64 b, .int .i64 c, .int .i64 d, .int .i64 e, .int .i64 f].all (·.oneCell')) = true := by simp [Value.oneCell']
theorem one5 (a b c d e : Int) : (#[Value.int .i64 a, .int .i64 b, .int .i64 c, .int .i64 d, .int .i64 e].all (·.oneCell')) = true := by simp [Value.oneCell']
theorem sizeD : (Tryd.prog.info? 23).map (·.size) = some 5 := by kernel_rfl
set_option maxRecDepth 100000 in
set_option maxHeartbeats 1000000 in
theorem rvalid_any (q : Qt) (w : World) :
    Calls Tryd.prog 26 #[.agg #[.int .i64 q.n, .int .i64 q.m.e, .int .i64 q.m.d, .int .i64 q.m.t, .int .i64 q.m.a, .int .i64 q.m.h]] w fun r w' => r = .returned (.bool (decide q.valid)) ∧ Below w.heap.size w w' := by
  have HW := Lib.hid (fun W => rwithin_any q.m 8 W (by omega))
  by_cases h1 : -2147483647 ≤ q.n
  · by_cases h2 : q.n ≤ 2147483647
    · have HX := Lib.hid (show decide q.valid = decide (q.m.in 8) by
        have : q.valid ↔ q.m.in 8 := ⟨fun h => h.2, fun h => ⟨⟨h1, h2⟩, h⟩⟩
        exact decide_eq_decide.2 this)
      go_enter Tryd.func26, Tryd.ntmps26
      go_wp2_with fail
      refine (HW.out _).mono ?_
      rintro r w1 ⟨rfl, hB⟩
      have HB := Lib.hid ((bel1 w _).trans (hB.mono (by simp <;> omega)))
      clear hB
      go_wp2_with fail
      go_ret
      exact ⟨by rw [HX.out]; rfl, HB.out⟩
    · have HX := Lib.hid (decide_eq_false (show ¬ q.valid from fun h => h2 h.1.2))
      have h2b : decide (q.n ≤ 2147483647) = false := by simpa using h2
      go_enter Tryd.func26, Tryd.ntmps26
      go_wp2_with fail
      go_ret
      exact ⟨by rw [HX.out]; rfl, bel1 w _⟩
  · have HX := Lib.hid (decide_eq_false (show ¬ q.valid from fun h => h1 h.1.1))
    have h1b : decide (-2147483647 ≤ q.n) = false := by simpa using h1
    go_enter Tryd.func26, Tryd.ntmps26
    go_wp2_with fail
    go_ret
    exact ⟨by rw [HX.out]; rfl, bel1 w _⟩
set_option maxRecDepth 100000 in
set_option maxHeartbeats 1000000 in
theorem rchecked_any (q : Qt) (w : World) :
    Calls Tryd.prog 48 #[.agg #[.int .i64 q.n, .int .i64 q.m.e, .int .i64 q.m.d, .int .i64 q.m.t, .int .i64 q.m.a, .int .i64 q.m.h]] w fun r w' => r = .returned (.tuple #[.agg #[.int .i64 (chk q).1.n, .int .i64 (chk q).1.m.e, .int .i64 (chk q).1.m.d, .int .i64 (chk q).1.m.t, .int .i64 (chk q).1.m.a, .int .i64 (chk q).1.m.h], .int .i64 (chk q).2]) ∧ Below w.heap.size w w' := by
  have HV := Lib.hid (fun W => rvalid_any q W)
  go_enter Tryd.func48, Tryd.ntmps48
  go_wp2_with fail
  refine (HV.out _).mono ?_
  rintro r w1 ⟨rfl, hB⟩
  have hres : w1.heap[w.heap.size + 1]? = some (.cells #[.int .i64 0, .int .i64 0, .int .i64 0, .int .i64 0, .int .i64 0, .int .i64 0] 32 (0, 0)) := (hB.block _ (by simp <;> omega)).trans (heap_alloc2_new w _ _)
  have hbox : ∀ o, w1.cell? ⟨w.heap.size, o, none⟩ = (#[.int .i64 q.n, .int .i64 q.m.e, .int .i64 q.m.d, .int .i64 q.m.t, .int .i64 q.m.a, .int .i64 q.m.h] : Array Value)[o]? := fun o => cell_of_row w1 w.heap.size o _ _ _ ((hB.block _ (by simp <;> omega)).trans (heap_alloc2_old w _ _))
  have HB := Lib.hid ((bel2 w _ _).trans (hB.mono (by simp <;> omega)))
  have HRES := Lib.hid hres
  clear hB hres
  by_cases hv : q.valid
  · have hd := decide_eq_true hv
    have HC := Lib.hid (show chk q = (q, 0) from if_pos hv)
    rw [hd]
    clear hv hd
    go_wp2_with (refine wpList_store_row rfl 32 _ _ rfl (w.heap.size + 1) #[.int .i64 q.n, .int .i64 q.m.e, .int .i64 q.m.d, .int .i64 q.m.t, .int .i64 q.m.a, .int .i64 q.m.h] rfl rfl 32 _ HRES.out sizeQ rfl (one6 _ _ _ _ _ _) ?_)
    refine bodyPost_ret (v := .tuple #[.agg #[.int .i64 q.n, .int .i64 q.m.e, .int .i64 q.m.d, .int .i64 q.m.t, .int .i64 q.m.a, .int .i64 q.m.h], .int .i64 0]) (results_row_tmp (ty := 32) rfl _ _ (w.heap.size + 1) 32 #[.int .i64 q.n, .int .i64 q.m.e, .int .i64 q.m.d, .int .i64 q.m.t, .int .i64 q.m.a, .int .i64 q.m.h] (0, 0) _ _ rfl rfl (setRow_heap _ _ _ _ _ _ HRES.out) Tryd.underlying32 rfl sizeQ) rfl ⟨?_, below_setRow HB.out (by omega) _⟩
    rw [HC.out]
  · have hd := decide_eq_false hv
    have HC := Lib.hid (show chk q = (Qt.zero, 5) from if_neg hv)
    rw [hd]
    clear hv hd
    go_wp2_with (refine wpList_store_row rfl 32 _ _ rfl (w.heap.size + 1) #[.int .i64 0, .int .i64 0, .int .i64 0, .int .i64 0, .int .i64 0, .int .i64 0] rfl rfl 32 _ HRES.out sizeQ rfl (one6 _ _ _ _ _ _) ?_)
    refine bodyPost_ret (v := .tuple #[.agg #[.int .i64 0, .int .i64 0, .int .i64 0, .int .i64 0, .int .i64 0, .int .i64 0], .int .i64 5]) (results_row_tmp (ty := 32) rfl _ _ (w.heap.size + 1) 32 #[.int .i64 0, .int .i64 0, .int .i64 0, .int .i64 0, .int .i64 0, .int .i64 0] (0, 0) _ _ rfl rfl (setRow_heap _ _ _ _ _ _ HRES.out) Tryd.underlying32 rfl sizeQ) rfl ⟨?_, below_setRow HB.out (by omega) _⟩
    rw [HC.out]
    rfl
theorem equal_dim (d : Nat) (x y : Dm) (w : World) : (Op.equalIn (d + 2) 23 (.agg #[.int .i64 x.e, .int .i64 x.d, .int .i64 x.t, .int .i64 x.a, .int .i64 x.h]) (.agg #[.int .i64 y.e, .int .i64 y.d, .int .i64 y.t, .int .i64 y.a, .int .i64 y.h])).run Tryd.prog w = .ok (decide (x = y)) w := by
  obtain ⟨a, b, c, d, e⟩ := x
  obtain ⟨a2, b2, c2, d2, e2⟩ := y
  rw [run_equalIn_struct w _ 23 _ _ (by kernel_rfl) (by kernel_rfl)]
  simp only [Dm.mk.injEq]
  by_cases h1 : a = a2
  · by_cases h2 : b = b2
    · by_cases h3 : c = c2
      · by_cases h4 : d = d2
        · by_cases h5 : e = e2
          · simp [go_sem, Tryd.underlying23, Op.eqFields, h1, h2, h3, h4, h5]
          · simp [go_sem, Tryd.underlying23, Op.eqFields, h1, h2, h3, h4, h5]
        · simp [go_sem, Tryd.underlying23, Op.eqFields, h1, h2, h3, h4]
      · simp [go_sem, Tryd.underlying23, Op.eqFields, h1, h2, h3]
    · simp [go_sem, Tryd.underlying23, Op.eqFields, h1, h2]
  · simp [go_sem, Tryd.underlying23, Op.eqFields, h1]
theorem run_neq_dim (x y : Dm) (w : World) : (binOp .neq 23 (.agg #[.int .i64 x.e, .int .i64 x.d, .int .i64 x.t, .int .i64 x.a, .int .i64 x.h]) (.agg #[.int .i64 y.e, .int .i64 y.d, .int .i64 y.t, .int .i64 y.a, .int .i64 y.h])).run Tryd.prog w = .ok (.bool (!decide (x = y))) w := by
  rw [run_neq_struct, equal_dim 9998]
  rfl
theorem run_eql_dim (x y : Dm) (w : World) : (binOp .eql 23 (.agg #[.int .i64 x.e, .int .i64 x.d, .int .i64 x.t, .int .i64 x.a, .int .i64 x.h]) (.agg #[.int .i64 y.e, .int .i64 y.d, .int .i64 y.t, .int .i64 y.a, .int .i64 y.h])).run Tryd.prog w = .ok (.bool (decide (x = y))) w := by
  rw [run_eql_struct, equal_dim 9998]
  rfl
theorem equal_qty (x y : Qt) (w : World) : (Op.equalIn 10000 32 (.agg #[.int .i64 x.n, .int .i64 x.m.e, .int .i64 x.m.d, .int .i64 x.m.t, .int .i64 x.m.a, .int .i64 x.m.h]) (.agg #[.int .i64 y.n, .int .i64 y.m.e, .int .i64 y.m.d, .int .i64 y.m.t, .int .i64 y.m.a, .int .i64 y.m.h])).run Tryd.prog w = .ok (decide (x = y)) w := by
  have hd := fun W => equal_dim 9997 x.m y.m W
  rw [run_equalIn_struct w _ 32 _ _ (by kernel_rfl) (by kernel_rfl)]
  by_cases h1 : x.n = y.n
  · by_cases h2 : x.m = y.m
    · have h3 : x = y := by cases x; cases y; simp_all
      subst h3
      simp [go_sem, Tryd.underlying32, Tryd.underlying23, Op.eqFields]
    · have h3 : ¬ x = y := fun h => h2 (by rw [h])
      have hd2 := hd w
      rw [decide_eq_false h2] at hd2
      simp [go_sem, Tryd.underlying32, Tryd.underlying23, Op.eqFields, h1, h3] at hd2 ⊢
      exact hd2
  · have h3 : ¬ x = y := fun h => h1 (by rw [h])
    simp [go_sem, Tryd.underlying32, Op.eqFields, h1, h3]
theorem run_neq_qty (x y : Qt) (w : World) : (binOp .neq 32 (.agg #[.int .i64 x.n, .int .i64 x.m.e, .int .i64 x.m.d, .int .i64 x.m.t, .int .i64 x.m.a, .int .i64 x.m.h]) (.agg #[.int .i64 y.n, .int .i64 y.m.e, .int .i64 y.m.d, .int .i64 y.m.t, .int .i64 y.m.a, .int .i64 y.m.h])).run Tryd.prog w = .ok (.bool (!decide (x = y))) w := by
  rw [run_neq_struct, equal_qty]
  rfl
theorem run_eql_qty (x y : Qt) (w : World) : (binOp .eql 32 (.agg #[.int .i64 x.n, .int .i64 x.m.e, .int .i64 x.m.d, .int .i64 x.m.t, .int .i64 x.m.a, .int .i64 x.m.h]) (.agg #[.int .i64 y.n, .int .i64 y.m.e, .int .i64 y.m.d, .int .i64 y.m.t, .int .i64 y.m.a, .int .i64 y.m.h])).run Tryd.prog w = .ok (.bool (decide (x = y))) w := by
  rw [run_eql_struct, equal_qty]
  rfl
end U
end Go.Proofs.YthcehhonahgfmaaDoor
