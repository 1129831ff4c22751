/-
  Package clock: Correlate.
-/
import Derived.Test.YtlmbpbhdbgadjaaKBun
namespace Go.Proofs.Ytlmbpbhdbgadjaa
open Go.RowKit
namespace K
open H
set_option linter.unusedVariables false
set_option maxRecDepth 100000
set_option maxHeartbeats 2000000 in
theorem correlate_any (lo hi s r q now d : Int) (w : World) (hnow : now ≤ 1099511627776) (hd : 1 ≤ d) (hd2 : d ≤ 1000000) :
    Calls Try.prog 21 #[iv lo hi, sm s r q, .int .i64 now, .int .i64 d] w fun e w' => e = .returned (.tuple #[iv (cor lo hi s r q now d).1 (cor lo hi s r q now d).2.1, .int .i64 (cor lo hi s r q now d).2.2]) ∧ Below w.heap.size w w' := by
  have HP := Lib.hid (fun W => plausible_any s r q now W)
  by_cases hp : pls s r q now = true
  · have hpv := hp
    simp only [pls, Bool.and_eq_true, decide_eq_true_eq] at hpv
    obtain ⟨⟨⟨⟨h0, h1⟩, h2⟩, h3⟩, h4⟩ := hpv
    rw [hp] at HP
    have hR : cor lo hi s r q now d = if mn hi (ahi (arr q (r - s) d) (now - r) d) < mx lo (alo q (now - r) d) then (0, 0, 22) else (mx lo (alo q (now - r) d), mn hi (ahi (arr q (r - s) d) (now - r) d), 0) := by
      unfold cor; rw [if_pos hp]
    generalize cor lo hi s r q now d = R at *
    have HA := Lib.hid (fun W => arrival_any s r q d W h0 h1 (by omega) ⟨h3, h4⟩ hd hd2)
    have hab := arr_bd q (r - s) d
    generalize arr q (r - s) d = L at *
    have HV := Lib.hid (fun W => advance_any q L (now - r) d W ⟨by omega, by omega⟩ ⟨by omega, by omega⟩ (by omega) (by omega) hd hd2)
    generalize hxl : alo q (now - r) d = xl at *
    generalize hxh : ahi L (now - r) d = xh at *
    generalize hY : mx lo xl = y1 at *
    generalize hZ : mn hi xh = z1 at *
    have HRR := Lib.hid hR
    have HYY := Lib.hid hY
    have HZZ := Lib.hid hZ
    clear hR hY hZ
    have hwn : IntKind.i64.wrap (now - r) = now - r := IntWalk.i64_in _ (by omega)
    have N0 := Bun.start w lo hi s r q 25 32
    clear hxl hxh hab hd hd2 hp hnow h0 h1 h2 h3 h4
    go_enter Try.func21, Try.ntmps21
    go_wp2_with (go_at_call 49; refine (HP.out _).mono ?_; rintro e w2 ⟨rfl, hB⟩; have N2 := N0.call hB; clear hB N0)
    have S0 := N2.drew.pack
    go_region_held3 (fun W => W.cell? ⟨w.heap.size + 1, 0, none⟩ = some (.int .i64 s) ∧ W.cell? ⟨w.heap.size + 1, 1, none⟩ = some (.int .i64 r) ∧ W.cell? ⟨w.heap.size + 1, 2, none⟩ = some (.int .i64 q)) (with_reducible (first | exact S0 | exact (N4.set _ _ _ M4).set _ _ _ M4 | exact ((N4.set _ _ _ M4).set _ _ _ M4).pack | exact (N4.alloc _).pack | exact N4.pack | exact (N3.alloc _).pack | exact N3.pack | exact (N2.alloc _).drew.pack | exact N2.drew.pack))
      ((first
        | (go_at_call 50; refine (HA.out _).mono ?_; rintro e w3 ⟨rfl, hB3⟩; have N3 := (by with_reducible (first | exact N2.drew.call hB3 | exact (N2.alloc _).drew.call hB3) : Bun w lo hi s r q w3); have C3 := Lib.hid hB3; clear hB3)
        | (go_at_call 15; refine (HV.out _).mono ?_; rintro e w4 ⟨rfl, hB4⟩; have N4 := (by with_reducible (first | exact N3.call hB4 | exact (N3.alloc _).call hB4) : Bun w lo hi s r q w4); (first | (obtain ⟨hr40, hr41, hr42, hr43⟩ := row_cells (heap_keep hB4 (heap_top w3 _)); have M4 := N3.lt) | (obtain ⟨hr40, hr41, hr42, hr43⟩ := row_cells (heap_keep hB4 (heap_keep C3.out (heap_top w2 _))); have M4 := N2.lt) | skip); have C4 := Lib.hid hB4; clear hB4)))
    · have N := N4.alloc (.cells #[.int .i64 xl, .int .i64 xh] 25)
      have b0 : (w4.alloc (.cells #[.int .i64 xl, .int .i64 xh] 25)).cell? ⟨w4.heap.size, 0, none⟩ = some (.int .i64 xl) := cell_top _ _ _ _
      have b1 : (w4.alloc (.cells #[.int .i64 xl, .int .i64 xh] 25)).cell? ⟨w4.heap.size, 1, none⟩ = some (.int .i64 xh) := cell_top _ _ _ _
      have bl := N4.lt
      generalize w4.alloc (.cells #[.int .i64 xl, .int .i64 xh] 25) = V at *
      generalize w4.heap.size = B at *
      skip
      have k0 := N.c0
      have k1 := N.c1
      obtain ⟨r0, r1, r2, r3⟩ := row_cells N.row
      have hlt := N.lt
      have hBel := Lib.hid N.bel
      have e1 : (if lo < xl then xl else lo) = y1 := HYY.out
      have e2 : (if xh < hi then xh else hi) = z1 := HZZ.out
      go_wp2_with fail
      · have hRv : R = (0, 0, 22) := by rw [HRR.out]; exact if_pos (by omega)
        rw [hRv]
        refine bodyPost_ret (v := .tuple #[iv 0 0, .int .i64 22]) (by simp [results, Try.results21, go_sem, *]) rfl ⟨rfl, ?_⟩
        exact (((hBel.out.setCell (by show w.heap.size ≤ w.heap.size + 1 + 1; omega) _).setCell (by show w.heap.size ≤ w.heap.size + 1 + 1; omega) _).alloc (by simp; omega) _)
      · have hRv : R = (y1, z1, 0) := by rw [HRR.out]; exact if_neg (by omega)
        rw [hRv]
        refine bodyPost_ret (v := .tuple #[iv y1 z1, .int .i64 0]) (by simp [results, Try.results21, go_sem, *]) rfl ⟨rfl, ?_⟩
        exact (((hBel.out.setCell (by show w.heap.size ≤ w.heap.size + 1 + 1; omega) _).setCell (by show w.heap.size ≤ w.heap.size + 1 + 1; omega) _).alloc (by simp; omega) _)
    · have N := (N4.set _ 0 (.int .i64 xl) M4).set _ 1 (.int .i64 xh) M4
      obtain ⟨b0, b1⟩ := set2_cells (u := .int .i64 xl) (v := .int .i64 xh) hr40 hr41
      have bl := M4
      generalize (w4.setCell ⟨w3.heap.size, 0, none⟩ (.int .i64 xl)).setCell ⟨w3.heap.size, 1, none⟩ (.int .i64 xh) = V at *
      generalize w3.heap.size = B at *
      skip
      have k0 := N.c0
      have k1 := N.c1
      obtain ⟨r0, r1, r2, r3⟩ := row_cells N.row
      have hlt := N.lt
      have hBel := Lib.hid N.bel
      have e1 : (if lo < xl then xl else lo) = y1 := HYY.out
      have e2 : (if xh < hi then xh else hi) = z1 := HZZ.out
      go_wp2_with fail
      · have hRv : R = (0, 0, 22) := by rw [HRR.out]; exact if_pos (by omega)
        rw [hRv]
        refine bodyPost_ret (v := .tuple #[iv 0 0, .int .i64 22]) (by simp [results, Try.results21, go_sem, *]) rfl ⟨rfl, ?_⟩
        exact (((hBel.out.setCell (by show w.heap.size ≤ w.heap.size + 1 + 1; omega) _).setCell (by show w.heap.size ≤ w.heap.size + 1 + 1; omega) _).alloc (by simp; omega) _)
      · have hRv : R = (y1, z1, 0) := by rw [HRR.out]; exact if_neg (by omega)
        rw [hRv]
        refine bodyPost_ret (v := .tuple #[iv y1 z1, .int .i64 0]) (by simp [results, Try.results21, go_sem, *]) rfl ⟨rfl, ?_⟩
        exact (((hBel.out.setCell (by show w.heap.size ≤ w.heap.size + 1 + 1; omega) _).setCell (by show w.heap.size ≤ w.heap.size + 1 + 1; omega) _).alloc (by simp; omega) _)
    · have N := (N4.set _ 0 (.int .i64 xl) M4).set _ 1 (.int .i64 xh) M4
      obtain ⟨b0, b1⟩ := set2_cells (u := .int .i64 xl) (v := .int .i64 xh) hr40 hr41
      have bl := M4
      generalize (w4.setCell ⟨w2.heap.size, 0, none⟩ (.int .i64 xl)).setCell ⟨w2.heap.size, 1, none⟩ (.int .i64 xh) = V at *
      generalize w2.heap.size = B at *
      skip
      have k0 := N.c0
      have k1 := N.c1
      obtain ⟨r0, r1, r2, r3⟩ := row_cells N.row
      have hlt := N.lt
      have hBel := Lib.hid N.bel
      have e1 : (if lo < xl then xl else lo) = y1 := HYY.out
      have e2 : (if xh < hi then xh else hi) = z1 := HZZ.out
      go_wp2_with fail
      · have hRv : R = (0, 0, 22) := by rw [HRR.out]; exact if_pos (by omega)
        rw [hRv]
        refine bodyPost_ret (v := .tuple #[iv 0 0, .int .i64 22]) (by simp [results, Try.results21, go_sem, *]) rfl ⟨rfl, ?_⟩
        exact (((hBel.out.setCell (by show w.heap.size ≤ w.heap.size + 1 + 1; omega) _).setCell (by show w.heap.size ≤ w.heap.size + 1 + 1; omega) _).alloc (by simp; omega) _)
      · have hRv : R = (y1, z1, 0) := by rw [HRR.out]; exact if_neg (by omega)
        rw [hRv]
        refine bodyPost_ret (v := .tuple #[iv y1 z1, .int .i64 0]) (by simp [results, Try.results21, go_sem, *]) rfl ⟨rfl, ?_⟩
        exact (((hBel.out.setCell (by show w.heap.size ≤ w.heap.size + 1 + 1; omega) _).setCell (by show w.heap.size ≤ w.heap.size + 1 + 1; omega) _).alloc (by simp; omega) _)
  · have hR : cor lo hi s r q now d = (0, 0, 1) := if_neg hp
    have hp2 : pls s r q now = false := by revert hp; cases pls s r q now <;> simp
    rw [hp2] at HP
    rw [hR]
    have N0 := Bun.start w lo hi s r q 25 32
    clear hR hp hp2
    go_enter Try.func21, Try.ntmps21
    go_wp2_with (go_at_call 49; refine (HP.out _).mono ?_; rintro e w2 ⟨rfl, hB⟩; have N2 := N0.call hB; clear hB N0; obtain ⟨r0, r1, r2, r3⟩ := row_cells N2.row)
    refine bodyPost_ret (v := .tuple #[iv 0 0, .int .i64 1]) (by simp [results, Try.results21, go_sem, *]) rfl ⟨rfl, ?_⟩
    exact ((N2.bel.setCell (by show w.heap.size ≤ w.heap.size + 1 + 1; omega) _).setCell (by show w.heap.size ≤ w.heap.size + 1 + 1; omega) _)
end K
end Go.Proofs.Ytlmbpbhdbgadjaa
