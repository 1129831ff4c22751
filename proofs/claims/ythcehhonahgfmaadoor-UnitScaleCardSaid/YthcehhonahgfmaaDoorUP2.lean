/-
  Contracts of the program's functions of quantities: checked, Add, Sub, Mul, Div, Compare.
-/
import Derived.Test.YthcehhonahgfmaaDoorUP1
import Derived.Test.YthcehhonahgfmaaDoorUOpen
namespace Go.Proofs.YthcehhonahgfmaaDoor
open Go.RowKit
namespace U
open H
set_option linter.unusedVariables false

set_option maxRecDepth 100000 in
set_option maxHeartbeats 1000000 in
theorem pexp_any (x : Dm) (w : World) :
    Calls Tryd.prog 44 #[.agg #[.int .i64 x.e, .int .i64 x.d, .int .i64 x.t, .int .i64 x.a, .int .i64 x.h]] w fun r w' => r = .returned (.agg #[.int .i64 x.e, .int .i64 x.d, .int .i64 x.t, .int .i64 x.a, .int .i64 x.h]) ∧ Below w.heap.size w w' := by
  go_enter Tryd.func44, Tryd.ntmps44
  go_wp2_with fail
  refine bodyPost_ret (v := .agg #[.int .i64 x.e, .int .i64 x.d, .int .i64 x.t, .int .i64 x.a, .int .i64 x.h]) (by simp [results, Tryd.results44, go_sem]) rfl ⟨rfl, bel2 w _ _⟩
set_option maxRecDepth 100000 in
set_option maxHeartbeats 1000000 in
theorem pwithin_any (n k : Int) (w : World) (hk : 0 ≤ k ∧ k ≤ 4294967296) :
    Calls Tryd.prog 63 #[.int .i64 n, .int .i64 k] w fun r w' => r = .returned (.bool (decide (-k ≤ n ∧ n ≤ k))) ∧ w' = w := by
  by_cases h1 : -k ≤ n
  · by_cases h2 : n ≤ k
    · have HX := Lib.hid (decide_eq_true (show -k ≤ n ∧ n ≤ k from ⟨h1, h2⟩))
      go_enter Tryd.func63, Tryd.ntmps63
      go_wp2_with fail
      go_ret
      exact ⟨by rw [HX.out]; rfl, rfl⟩
    · go_enter Tryd.func63, Tryd.ntmps63
      go_wp2_with fail
      go_ret
      exact ⟨by rw [decide_eq_false (show ¬ n ≤ k by omega)]; rfl, rfl⟩
  · go_enter Tryd.func63, Tryd.ntmps63
    go_wp2_with fail
    go_ret
    exact ⟨by rw [decide_eq_false (show ¬ -k ≤ n by omega)]; rfl, rfl⟩
theorem run_index5 (x : Dm) (j : Nat) (hj : j < 5) (w : World) : (Instr.index 53 (.agg #[.int .i64 x.e, .int .i64 x.d, .int .i64 x.t, .int .i64 x.a, .int .i64 x.h]) (.int .i64 (j : Int))).run Tryd.prog w = .ok (.int .i64 (x.list[j]?.getD 0)) w := by
  match j, hj with
  | 0, _ => simp [Instr.index, run_underlying Tryd.underlying53, asIntOf, go_sem, Dm.list]
  | 1, _ => simp [Instr.index, run_underlying Tryd.underlying53, asIntOf, go_sem, Dm.list]
  | 2, _ => simp [Instr.index, run_underlying Tryd.underlying53, asIntOf, go_sem, Dm.list]
  | 3, _ => simp [Instr.index, run_underlying Tryd.underlying53, asIntOf, go_sem, Dm.list]
  | 4, _ => simp [Instr.index, run_underlying Tryd.underlying53, asIntOf, go_sem, Dm.list]
set_option maxRecDepth 100000 in
set_option maxHeartbeats 1000000 in
theorem pchecked_any (q : Qt) (w : World) :
    Calls Tryd.prog 47 #[.agg #[.int .i64 q.n, .int .i64 q.m.e, .int .i64 q.m.d, .int .i64 q.m.t, .int .i64 q.m.a, .int .i64 q.m.h]] w fun r w' => r = .returned (.tuple #[.agg #[.int .i64 (chk q).1.n, .int .i64 (chk q).1.m.e, .int .i64 (chk q).1.m.d, .int .i64 (chk q).1.m.t, .int .i64 (chk q).1.m.a, .int .i64 (chk q).1.m.h], .int .i64 (chk q).2]) ∧ Below w.heap.size w w' := by
  have HE := Lib.hid (fun W => pexp_any q.m W)
  have HW := Lib.hid (fun n k h W => pwithin_any n k W h)
  have HRES := Lib.hid (heap_alloc2_new w (.cells #[.int .i64 q.n, .int .i64 q.m.e, .int .i64 q.m.d, .int .i64 q.m.t, .int .i64 q.m.a, .int .i64 q.m.h] 32) (.cells #[.int .i64 0, .int .i64 0, .int .i64 0, .int .i64 0, .int .i64 0, .int .i64 0] 32))
  go_enter Tryd.func47, Tryd.ntmps47
  go_wp2_with fail
  refine (HW.out _ _ (by omega) _).mono ?_
  rintro r w1 ⟨rfl, rfl⟩
  by_cases hn : -2147483647 ≤ q.n ∧ q.n ≤ 2147483647
  · rw [decide_eq_true hn]
    go_wp2_with fail
    refine (HE.out _).mono ?_
    rintro r w1 ⟨rfl, hB⟩
    have HRES1 := Lib.hid ((hB.block (w.heap.size + 1) (by simp)).trans HRES.out)
    have hbox : ∀ o, w1.cell? ⟨w.heap.size, o, none⟩ = (#[.int .i64 q.n, .int .i64 q.m.e, .int .i64 q.m.d, .int .i64 q.m.t, .int .i64 q.m.a, .int .i64 q.m.h] : Array Value)[o]? := fun o => cell_of_row w1 w.heap.size o _ _ _ ((hB.block _ (by simp <;> omega)).trans (heap_alloc2_old w _ _))
    have HB := Lib.hid ((bel2 w _ _).trans (hB.mono (by simp <;> omega)))
    clear hB
    go_wp2_with fail
    go_loopg [14] 5 (fun g i wr => ∃ j : Nat, j + g = 5 ∧ i = .int .i64 j ∧ (∀ l, l < j → -8 ≤ q.m.list[l]?.getD 0 ∧ q.m.list[l]?.getD 0 ≤ 8) ∧ wr = w1)
    case atStart => exact ⟨0, rfl, rfl, fun l hl => by omega, rfl⟩
    case round =>
      obtain ⟨j, hg, rfl, hal, rfl⟩ := hrel
      have HG := Lib.hid hg
      have HA := Lib.hid hal
      have hj5 : j ≤ 5 := by omega
      clear hg hal
      by_cases hlt : j < 5
      · have hi : (j : Int) < 5 := by omega
        have hi0 : (0 : Int) ≤ (j : Int) := by omega
        have HIX := Lib.hid (run_index5 q.m j hlt wr)
        obtain ⟨v, hve⟩ : ∃ v, q.m.list[j]?.getD 0 = v := ⟨_, rfl⟩
        rw [hve] at HIX
        have HV := Lib.hid hve
        clear hve
        go_wp2_with fail
        rw [HIX.out]
        go_wp2_with fail
        refine (HW.out _ _ (by omega) _).mono ?_
        rintro r w2 ⟨rfl, rfl⟩
        by_cases hv : -8 ≤ v ∧ v ≤ 8
        · rw [decide_eq_true hv]
          have HL := Lib.hid hlt
          clear hlt
          go_wp2_with fail
          go_roundg (gk - 1)
          case measure => have := HG.out; have := HL.out; omega
          case rel =>
            refine ⟨j + 1, by have := HG.out; have := HL.out; omega, by go_num, fun l hl => ?_, rfl⟩
            by_cases hlj : l = j
            · rw [hlj, HV.out]; exact hv
            · exact HA.out l (by omega)
        · rw [decide_eq_false hv]
          have HC := Lib.hid (show chk q = (Qt.zero, 5) from if_neg (fun h => hv (by have := (list_in q.m 8).1 h.2 j hlt; rwa [HV.out] at this)))
          clear hv hlt
          go_wp2_with (refine wpList_store_row rfl 32 _ _ rfl (w.heap.size + 1) #[.int .i64 0, .int .i64 0, .int .i64 0, .int .i64 0, .int .i64 0, .int .i64 0] rfl rfl 32 _ HRES1.out sizeQ rfl (one6 _ _ _ _ _ _) ?_)
          refine bodyPost_ret (v := .tuple #[.agg #[.int .i64 0, .int .i64 0, .int .i64 0, .int .i64 0, .int .i64 0, .int .i64 0], .int .i64 5]) (results_row_tmp (ty := 32) rfl _ _ (w.heap.size + 1) 32 #[.int .i64 0, .int .i64 0, .int .i64 0, .int .i64 0, .int .i64 0, .int .i64 0] (0, 0) _ _ rfl rfl (setRow_heap _ _ _ _ _ _ HRES1.out) Tryd.underlying32 rfl sizeQ) rfl ⟨?_, below_setRow HB.out (by omega) _⟩
          rw [HC.out]
          rfl
      · have hj : j = 5 := by omega
        have HC := Lib.hid (show chk q = (q, 0) from if_pos ⟨hn, (list_in q.m 8).2 (by rw [← hj]; exact HA.out)⟩)
        have hi : ¬ (j : Int) < 5 := by omega
        clear hj hlt
        go_wp2_with (refine wpList_store_row rfl 32 _ _ rfl (w.heap.size + 1) #[.int .i64 q.n, .int .i64 q.m.e, .int .i64 q.m.d, .int .i64 q.m.t, .int .i64 q.m.a, .int .i64 q.m.h] rfl rfl 32 _ HRES1.out sizeQ rfl (one6 _ _ _ _ _ _) ?_)
        refine bodyPost_ret (v := .tuple #[.agg #[.int .i64 q.n, .int .i64 q.m.e, .int .i64 q.m.d, .int .i64 q.m.t, .int .i64 q.m.a, .int .i64 q.m.h], .int .i64 0]) (results_row_tmp (ty := 32) rfl _ _ (w.heap.size + 1) 32 #[.int .i64 q.n, .int .i64 q.m.e, .int .i64 q.m.d, .int .i64 q.m.t, .int .i64 q.m.a, .int .i64 q.m.h] (0, 0) _ _ rfl rfl (setRow_heap _ _ _ _ _ _ HRES1.out) Tryd.underlying32 rfl sizeQ) rfl ⟨?_, below_setRow HB.out (by omega) _⟩
        rw [HC.out]
  · rw [decide_eq_false hn]
    have HC := Lib.hid (show chk q = (Qt.zero, 5) from if_neg (fun h => hn h.1))
    have HB := Lib.hid (bel2 w (.cells #[.int .i64 q.n, .int .i64 q.m.e, .int .i64 q.m.d, .int .i64 q.m.t, .int .i64 q.m.a, .int .i64 q.m.h] 32) (.cells #[.int .i64 0, .int .i64 0, .int .i64 0, .int .i64 0, .int .i64 0, .int .i64 0] 32))
    go_wp2_with (refine wpList_store_row rfl 32 _ _ rfl (w.heap.size + 1) #[.int .i64 0, .int .i64 0, .int .i64 0, .int .i64 0, .int .i64 0, .int .i64 0] rfl rfl 32 _ HRES.out sizeQ rfl (one6 _ _ _ _ _ _) ?_)
    refine bodyPost_ret (v := .tuple #[.agg #[.int .i64 0, .int .i64 0, .int .i64 0, .int .i64 0, .int .i64 0, .int .i64 0], .int .i64 5]) (results_row_tmp (ty := 32) rfl _ _ (w.heap.size + 1) 32 #[.int .i64 0, .int .i64 0, .int .i64 0, .int .i64 0, .int .i64 0, .int .i64 0] (0, 0) _ _ rfl rfl (setRow_heap _ _ _ _ _ _ HRES.out) Tryd.underlying32 rfl sizeQ) rfl ⟨?_, below_setRow HB.out (by omega) _⟩
    rw [HC.out]
    rfl
end U
end Go.Proofs.YthcehhonahgfmaaDoor
