/-
  The specification's functions on intervals.
-/
import Derived.Test.YtlmbpbhdbgadjaaKPg2
import Derived.Test.YtlmbpbhdbgadjaaAround
namespace Go.Proofs.Ytlmbpbhdbgadjaa
open Go.RowKit
namespace K
open H
set_option linter.unusedVariables false
set_option maxRecDepth 100000
set_option maxHeartbeats 1000000 in
theorem rlimit_any (n : Int) (w : World) : Calls Try.prog 48 #[.int .i64 n] w fun e w' => e = .returned (.int .i64 (lim n)) ∧ w' = w := by
  by_cases h : n < 0
  · have hl : lim n = 0 := by unfold lim; rw [if_pos h]
    rw [hl]
    clear hl
    go_enter Try.func48, Try.ntmps48
    go_wp2_with fail
    go_ret
    exact ⟨rfl, rfl⟩
  · by_cases h2 : 1000000 < n
    · have hl : lim n = 1000000 := by unfold lim; rw [if_neg h, if_pos h2]
      rw [hl]
      clear hl
      go_enter Try.func48, Try.ntmps48
      go_wp2_with fail
      go_ret
      exact ⟨rfl, rfl⟩
    · have hl : lim n = n := by unfold lim; rw [if_neg h, if_neg h2]
      rw [hl]
      clear hl
      go_enter Try.func48, Try.ntmps48
      go_wp2_with fail
      go_ret
      exact ⟨rfl, rfl⟩
theorem heap_top_drew (w : World) (o : Obj) : (w.alloc o).drew.heap[w.heap.size]? = some o := heap_top w o
theorem heap_top3 (w : World) (A B C o : Obj) : ((((w.alloc A).alloc B).alloc C).alloc o).drew.heap[w.heap.size + 1 + 1 + 1]? = some o := by
  have h := heap_top (((w.alloc A).alloc B).alloc C) o
  show ((((w.alloc A).alloc B).alloc C).alloc o).heap[_]? = _
  simpa using h
theorem below_drew (w : World) : Below w.heap.size w w.drew := (Below.refl _ _).drew
set_option maxHeartbeats 1000000 in
theorem ceil_any (c d : Int) (w : World) (hc : 0 ≤ c) (hc2 : c ≤ 1099511627776) (hd : 1 ≤ d) (hd2 : d ≤ 1000000) : Calls Try.prog 37 #[.int .i64 c, .int .i64 d] w fun e w' => e = .returned (.int .i64 (cd c d)) ∧ Below w.heap.size w w' := by
  have hz : ¬ (d = 0) := by omega
  have e1 : c.tdiv d = c / d := Int.tdiv_eq_ediv_of_nonneg hc
  have e2 : c.tmod d = c % d := Int.tmod_eq_emod_of_nonneg hc
  have b0 := cd_nonneg hc hd
  have b1 := cd_self hc hd
  have hce := ceil_eq hc hd
  have b2 := Int.emod_nonneg c (show d ≠ 0 by omega)
  have b3 := Int.ediv_nonneg hc (show 0 ≤ d by omega)
  generalize cd c d = k at *
  generalize c / d = x at *
  generalize c % d = y at *
  by_cases hy : y < 1
  · rw [if_pos hy] at hce
    have hw : IntKind.i64.wrap (x + y) = k := by rw [hce]; exact IntWalk.i64_in _ (by omega)
    have hwq : IntKind.i64.wrap x = x := IntWalk.i64_in _ (by omega)
    clear hce
    go_enter Try.func37, Try.ntmps37
    go_wp2_with fail
    go_region
    go_wp2_with fail
    go_ret
    exact ⟨rfl, below_drew w⟩
  · rw [if_neg hy] at hce
    have hw : wrap64 (x + 1) = k := by rw [hce]; exact IntWalk.wrap64_in _ (by omega)
    have hwq : IntKind.i64.wrap x = x := IntWalk.i64_in _ (by omega)
    clear hce
    by_cases hy1 : y = 1
    · subst hy1
      go_enter Try.func37, Try.ntmps37
      go_wp2_with fail
      go_region
      go_wp2_with fail
      go_ret
      first | exact ⟨rfl, below_drew w⟩ | exact ⟨congrArg (fun z => Ending.returned (.int .i64 z)) hw, below_drew w⟩
    · have hy2 : ¬ (y ≤ 1) := by omega
      go_enter Try.func37, Try.ntmps37
      go_wp2_with fail
      go_region
      go_wp2_with fail
      go_ret
      first | exact ⟨rfl, below_drew w⟩ | exact ⟨congrArg (fun z => Ending.returned (.int .i64 z)) hw, below_drew w⟩
set_option maxHeartbeats 1000000 in
theorem rerr_any (c d : Int) (w : World) (hc : 0 ≤ c) (hc2 : c ≤ 1099511627776) (hd : 1 ≤ d) (hd2 : d ≤ 1000000) : Calls Try.prog 47 #[.int .i64 c, .int .i64 d] w fun e w' => e = .returned (.int .i64 (cd c d)) ∧ Below w.heap.size w w' := by
  have HG := Lib.hid (fun W => ceil_any c d W hc hc2 hd hd2)
  generalize cd c d = k at *
  clear hc hc2 hd hd2
  go_enter Try.func47, Try.ntmps47
  go_wp2_with (go_at_call 37; refine (HG.out _).mono ?_; rintro r w2 ⟨rfl, hB⟩; have HB := Lib.hid hB; clear hB)
  go_ret
  exact ⟨rfl, HB.out⟩
/-- What Advance holds while it computes. -/
structure Bua (w : World) (lo hi : Int) (W : World) : Prop where
  c0 : W.cell? ⟨w.heap.size, 0, none⟩ = some (.int .i64 lo)
  c1 : W.cell? ⟨w.heap.size, 1, none⟩ = some (.int .i64 hi)
  row : W.heap[w.heap.size + 1]? = some zz
  lt : w.heap.size + 1 < W.heap.size
  bel : Below w.heap.size w W
theorem Bua.start (w : World) (lo hi : Int) (A : TypeId) : Bua w lo hi ((w.alloc (.cells #[.int .i64 lo, .int .i64 hi] A)).alloc zz) :=
  ⟨cell_under _ ((cell_at rfl).trans rfl), cell_under _ ((cell_at rfl).trans rfl), (by have h := heap_top (w.alloc (.cells #[.int .i64 lo, .int .i64 hi] A)) zz; simpa using h), by simp, ((Below.refl _ w).alloc (Nat.le_refl _) _).alloc (by simp) _⟩
theorem Bua.call {w W V : World} {lo hi : Int} (h : Bua w lo hi W) (hB : Below W.heap.size W V) : Bua w lo hi V :=
  ⟨below_cell hB h.c0, below_cell hB h.c1, heap_keep hB h.row, Nat.lt_of_lt_of_le h.lt hB.size, h.bel.trans (hB.mono (by have := h.lt; omega))⟩
set_option maxHeartbeats 1000000 in
theorem radvance_any (lo hi c d : Int) (w : World) (hl : -1000000 ≤ lo ∧ lo ≤ 1000000) (hh : -1000000 ≤ hi ∧ hi ≤ 1000000) (hc : 0 ≤ c) (hc2 : c ≤ 1099511627776) (hd : 1 ≤ d) (hd2 : d ≤ 1000000) :
    Calls Try.prog 18 #[iv lo hi, .int .i64 c, .int .i64 d] w fun e w' => e = .returned (iv (alo lo c d) (ahi hi c d)) ∧ Below w.heap.size w w' := by
  have HG := Lib.hid (fun W => rerr_any c d W hc hc2 hd hd2)
  have HL := Lib.hid (fun n W => rlimit_any n W)
  unfold alo ahi
  have b0 := cd_nonneg hc hd
  have b1 := cd_self hc hd
  generalize cd c d = k at *
  have hw1 : IntKind.i64.wrap (lo + c) = lo + c := IntWalk.i64_in _ (by omega)
  have hw2 : IntKind.i64.wrap (lo + c - k) = lo + c - k := IntWalk.i64_in _ (by omega)
  have hw3 : IntKind.i64.wrap (hi + c) = hi + c := IntWalk.i64_in _ (by omega)
  have hw4 : IntKind.i64.wrap (hi + c + k) = hi + c + k := IntWalk.i64_in _ (by omega)
  have N0 := Bua.start w lo hi 25
  clear hl hh hc hc2 hd hd2 b0 b1
  go_enter Try.func18, Try.ntmps18
  go_wp2_with (go_at_call 47; refine (HG.out _).mono ?_; rintro r w2 ⟨rfl, hB⟩; have N2 := N0.call hB; clear hB N0)
  have g0 := N2.c0
  have g1 := N2.c1
  have gl := N2.lt
  obtain ⟨r0, r1, r2, r3⟩ := row_cells N2.row
  go_region_held3 (fun W => W.cell? ⟨w.heap.size, 0, none⟩ = some (.int .i64 lo) ∧ W.cell? ⟨w.heap.size, 1, none⟩ = some (.int .i64 hi)) (first | exact ⟨g0, g1⟩ | (go_keep; done) | assumption) ((go_at_call 48; refine (HL.out _ _).mono ?_; rintro r w2 ⟨rfl, rfl⟩))
  go_wp2_with fail
  refine bodyPost_ret (v := iv (lim (lo + c - k)) (lim (hi + c + k))) (by simp [results, Try.results18, go_sem, *]) rfl ⟨rfl, ?_⟩
  exact ((N2.bel.setCell (by show w.heap.size ≤ w.heap.size + 1; omega) _).setCell (by show w.heap.size ≤ w.heap.size + 1; omega) _).drew
set_option maxHeartbeats 2000000 in
theorem rcorrelate_any (lo hi s r q now d : Int) (w : World) (hnow : now ≤ 1099511627776) (hd : 1 ≤ d) (hd2 : d ≤ 1000000) :
    Calls Try.prog 22 #[iv lo hi, sm s r q, .int .i64 now, .int .i64 d] w fun e w' => e = .returned (.tuple #[iv (cor lo hi s r q now d).1 (cor lo hi s r q now d).2.1, .int .i64 (cor lo hi s r q now d).2.2]) ∧ Below w.heap.size w w' := by
  by_cases hp : pls s r q now = true
  · have hpv := hp
    simp only [pls, Bool.and_eq_true, decide_eq_true_eq] at hpv
    obtain ⟨⟨⟨⟨h0, h1⟩, h2⟩, h3⟩, h4⟩ := hpv
    have hR : cor lo hi s r q now d = if mn hi (ahi (arr q (r - s) d) (now - r) d) < mx lo (alo q (now - r) d) then (0, 0, 22) else (mx lo (alo q (now - r) d), mn hi (ahi (arr q (r - s) d) (now - r) d), 0) := by
      unfold cor; rw [if_pos hp]
    generalize cor lo hi s r q now d = R at *
    have HA := Lib.hid (fun W => rerr_any (r - s) d W (by omega) (by omega) hd hd2)
    have HL := Lib.hid (fun n W => rlimit_any n W)
    have hab := arr_bd q (r - s) d
    have hLL : lim (q + (r - s) + cd (r - s) d) = arr q (r - s) d := rfl
    generalize arr q (r - s) d = L at *
    have HV := Lib.hid (fun W => radvance_any q L (now - r) d W ⟨by omega, by omega⟩ ⟨by omega, by omega⟩ (by omega) (by omega) hd hd2)
    generalize hxl : alo q (now - r) d = xl at *
    generalize hxh : ahi L (now - r) d = xh at *
    generalize hY : mx lo xl = y1 at *
    generalize hZ : mn hi xh = z1 at *
    have HRR := Lib.hid hR
    have HYY := Lib.hid hY
    have HZZ := Lib.hid hZ
    clear hR hY hZ
    have b0 := cd_nonneg (c := r - s) (by omega) hd
    have b1 := cd_self (c := r - s) (by omega) hd
    have N0 := Bun.start w lo hi s r q 25 32
    clear hxl hxh hab hd hd2 hp
    go_enter Try.func22, Try.ntmps22
    go_wp2_with fail
    have hcb : r - s ≤ 1099511627776 := by omega
    have hwn : IntKind.i64.wrap (now - r) = now - r := IntWalk.i64_in _ (by omega)
    generalize r - s = c at *
    generalize cd c d = k at *
    have hw1 : IntKind.i64.wrap (q + c) = q + c := IntWalk.i64_in _ (by omega)
    have hw2 : IntKind.i64.wrap (q + c + k) = q + c + k := IntWalk.i64_in _ (by omega)
    clear hnow h0 h1 h2 h3 h4 b0 b1 hcb
    have S0 := N0.drew.pack
    go_region_held3 (fun W => W.cell? ⟨w.heap.size + 1, 0, none⟩ = some (.int .i64 s) ∧ W.cell? ⟨w.heap.size + 1, 1, none⟩ = some (.int .i64 r) ∧ W.cell? ⟨w.heap.size + 1, 2, none⟩ = some (.int .i64 q)) (with_reducible (first | exact S0 | exact ((N4.set _ _ _ M4).set _ _ _ M4).pack | exact (N4.alloc _).pack | exact N4.pack | exact (N3.alloc _).pack | exact N3.pack | exact (N0.alloc _).drew.pack | exact N0.drew.pack))
      ((first
        | (go_at_call 48; refine (HL.out _ _).mono ?_; rintro e w9 ⟨rfl, hw9⟩; rw [hw9]; clear hw9 w9)
        | (go_at_call 47; refine (HA.out _).mono ?_; rintro e w3 ⟨rfl, hB3⟩; have N3 := (by with_reducible (first | exact N0.drew.call hB3 | exact (N0.alloc _).drew.call hB3) : Bun w lo hi s r q w3); have C3 := Lib.hid hB3; clear hB3)
        | (go_at_call 18; refine (HV.out _).mono ?_; rintro e w4 ⟨rfl, hB4⟩; have N4 := (by with_reducible (first | exact N3.call hB4 | exact (N3.alloc _).call hB4) : Bun w lo hi s r q w4); (first | (have hrw := (by with_reducible exact heap_keep hB4 (heap_top w3 zz) : w4.heap[w3.heap.size]? = some zz); obtain ⟨hr40, hr41, hr42, hr43⟩ := row_cells hrw; have M4 := N3.lt; clear hrw) | (have hrw := (by with_reducible exact heap_keep hB4 (heap_keep C3.out (heap_top3 w _ _ _ zz)) : w4.heap[w.heap.size + 1 + 1 + 1]? = some zz); obtain ⟨hr40, hr41, hr42, hr43⟩ := row_cells hrw; have M4 := Nat.lt_succ_self (w.heap.size + 1 + 1); clear hrw) | skip); have C4 := Lib.hid hB4; clear hB4)))
    · have N := N4.alloc (.cells #[.int .i64 xl, .int .i64 xh] 25)
      have b0 : (w4.alloc (.cells #[.int .i64 xl, .int .i64 xh] 25)).cell? ⟨w4.heap.size, 0, none⟩ = some (.int .i64 xl) := cell_top _ _ _ _
      have b1 : (w4.alloc (.cells #[.int .i64 xl, .int .i64 xh] 25)).cell? ⟨w4.heap.size, 1, none⟩ = some (.int .i64 xh) := cell_top _ _ _ _
      have bl := N4.lt
      generalize w4.alloc (.cells #[.int .i64 xl, .int .i64 xh] 25) = V at *
      generalize w4.heap.size = B at *
      skip
      have k0 := N.c0
      have k1 := N.c1
      obtain ⟨r0, r1, r2, r3⟩ := row_cells N.row
      have hlt := N.lt
      have hBel := Lib.hid N.bel
      have e1 : (if lo < xl then xl else lo) = y1 := HYY.out
      have e2 : (if xh < hi then xh else hi) = z1 := HZZ.out
      go_wp2_with fail
      · have hRv : R = (0, 0, 22) := by rw [HRR.out]; exact if_pos (by omega)
        rw [hRv]
        refine bodyPost_ret (v := .tuple #[iv 0 0, .int .i64 22]) (by simp [results, Try.results22, go_sem, *]) rfl ⟨rfl, ?_⟩
        exact (((hBel.out.setCell (by show w.heap.size ≤ w.heap.size + 1 + 1; omega) _).setCell (by show w.heap.size ≤ w.heap.size + 1 + 1; omega) _).alloc (by simp; omega) _)
      · have hRv : R = (y1, z1, 0) := by rw [HRR.out]; exact if_neg (by omega)
        rw [hRv]
        refine bodyPost_ret (v := .tuple #[iv y1 z1, .int .i64 0]) (by simp [results, Try.results22, go_sem, *]) rfl ⟨rfl, ?_⟩
        exact (((hBel.out.setCell (by show w.heap.size ≤ w.heap.size + 1 + 1; omega) _).setCell (by show w.heap.size ≤ w.heap.size + 1 + 1; omega) _).alloc (by simp; omega) _)
    · have N := (N4.set _ 0 (.int .i64 xl) M4).set _ 1 (.int .i64 xh) M4
      obtain ⟨b0, b1⟩ := set2_cells (u := .int .i64 xl) (v := .int .i64 xh) hr40 hr41
      have bl := M4
      generalize (w4.setCell ⟨w3.heap.size, 0, none⟩ (.int .i64 xl)).setCell ⟨w3.heap.size, 1, none⟩ (.int .i64 xh) = V at *
      generalize w3.heap.size = B at *
      skip
      have k0 := N.c0
      have k1 := N.c1
      obtain ⟨r0, r1, r2, r3⟩ := row_cells N.row
      have hlt := N.lt
      have hBel := Lib.hid N.bel
      have e1 : (if lo < xl then xl else lo) = y1 := HYY.out
      have e2 : (if xh < hi then xh else hi) = z1 := HZZ.out
      go_wp2_with fail
      · have hRv : R = (0, 0, 22) := by rw [HRR.out]; exact if_pos (by omega)
        rw [hRv]
        refine bodyPost_ret (v := .tuple #[iv 0 0, .int .i64 22]) (by simp [results, Try.results22, go_sem, *]) rfl ⟨rfl, ?_⟩
        exact (((hBel.out.setCell (by show w.heap.size ≤ w.heap.size + 1 + 1; omega) _).setCell (by show w.heap.size ≤ w.heap.size + 1 + 1; omega) _).alloc (by simp; omega) _)
      · have hRv : R = (y1, z1, 0) := by rw [HRR.out]; exact if_neg (by omega)
        rw [hRv]
        refine bodyPost_ret (v := .tuple #[iv y1 z1, .int .i64 0]) (by simp [results, Try.results22, go_sem, *]) rfl ⟨rfl, ?_⟩
        exact (((hBel.out.setCell (by show w.heap.size ≤ w.heap.size + 1 + 1; omega) _).setCell (by show w.heap.size ≤ w.heap.size + 1 + 1; omega) _).alloc (by simp; omega) _)
    · have N := (N4.set _ 0 (.int .i64 xl) M4).set _ 1 (.int .i64 xh) M4
      obtain ⟨b0, b1⟩ := set2_cells (u := .int .i64 xl) (v := .int .i64 xh) hr40 hr41
      have bl := M4
      generalize (w4.setCell ⟨w3.heap.size, 0, none⟩ (.int .i64 xl)).setCell ⟨w3.heap.size, 1, none⟩ (.int .i64 xh) = V at *
      generalize w3.heap.size = B at *
      skip
      have k0 := N.c0
      have k1 := N.c1
      obtain ⟨r0, r1, r2, r3⟩ := row_cells N.row
      have hlt := N.lt
      have hBel := Lib.hid N.bel
      have e1 : (if lo < xl then xl else lo) = y1 := HYY.out
      have e2 : (if xh < hi then xh else hi) = z1 := HZZ.out
      go_wp2_with fail
      · have hRv : R = (0, 0, 22) := by rw [HRR.out]; exact if_pos (by omega)
        rw [hRv]
        refine bodyPost_ret (v := .tuple #[iv 0 0, .int .i64 22]) (by simp [results, Try.results22, go_sem, *]) rfl ⟨rfl, ?_⟩
        exact (((hBel.out.setCell (by show w.heap.size ≤ w.heap.size + 1 + 1; omega) _).setCell (by show w.heap.size ≤ w.heap.size + 1 + 1; omega) _).alloc (by simp; omega) _)
      · have hRv : R = (y1, z1, 0) := by rw [HRR.out]; exact if_neg (by omega)
        rw [hRv]
        refine bodyPost_ret (v := .tuple #[iv y1 z1, .int .i64 0]) (by simp [results, Try.results22, go_sem, *]) rfl ⟨rfl, ?_⟩
        exact (((hBel.out.setCell (by show w.heap.size ≤ w.heap.size + 1 + 1; omega) _).setCell (by show w.heap.size ≤ w.heap.size + 1 + 1; omega) _).alloc (by simp; omega) _)
    · have N := (N4.set _ 0 (.int .i64 xl) M4).set _ 1 (.int .i64 xh) M4
      obtain ⟨b0, b1⟩ := set2_cells (u := .int .i64 xl) (v := .int .i64 xh) hr40 hr41
      have bl := M4
      generalize (w4.setCell ⟨w.heap.size + 1 + 1 + 1, 0, none⟩ (.int .i64 xl)).setCell ⟨w.heap.size + 1 + 1 + 1, 1, none⟩ (.int .i64 xh) = V at *
      skip
      have k0 := N.c0
      have k1 := N.c1
      obtain ⟨r0, r1, r2, r3⟩ := row_cells N.row
      have hlt := N.lt
      have hBel := Lib.hid N.bel
      have e1 : (if lo < xl then xl else lo) = y1 := HYY.out
      have e2 : (if xh < hi then xh else hi) = z1 := HZZ.out
      go_wp2_with fail
      · have hRv : R = (0, 0, 22) := by rw [HRR.out]; exact if_pos (by omega)
        rw [hRv]
        refine bodyPost_ret (v := .tuple #[iv 0 0, .int .i64 22]) (by simp [results, Try.results22, go_sem, *]) rfl ⟨rfl, ?_⟩
        exact (((hBel.out.setCell (by show w.heap.size ≤ w.heap.size + 1 + 1; omega) _).setCell (by show w.heap.size ≤ w.heap.size + 1 + 1; omega) _).alloc (by simp; omega) _)
      · have hRv : R = (y1, z1, 0) := by rw [HRR.out]; exact if_neg (by omega)
        rw [hRv]
        refine bodyPost_ret (v := .tuple #[iv y1 z1, .int .i64 0]) (by simp [results, Try.results22, go_sem, *]) rfl ⟨rfl, ?_⟩
        exact (((hBel.out.setCell (by show w.heap.size ≤ w.heap.size + 1 + 1; omega) _).setCell (by show w.heap.size ≤ w.heap.size + 1 + 1; omega) _).alloc (by simp; omega) _)
  · have hR : cor lo hi s r q now d = (0, 0, 1) := if_neg hp
    rw [hR]
    clear hR
    have hp2 : s < 0 ∨ (0 ≤ s ∧ r < s) ∨ (0 ≤ s ∧ s ≤ r ∧ now < r) ∨ (0 ≤ s ∧ s ≤ r ∧ r ≤ now ∧ q < 0) ∨ (0 ≤ s ∧ s ≤ r ∧ r ≤ now ∧ 0 ≤ q ∧ 1000000 < q) := by
      simp only [pls, Bool.and_eq_true, decide_eq_true_eq] at hp; omega
    clear hp hnow hd hd2
    rcases hp2 with g1 | ⟨h0, g1⟩ | ⟨h0, h1, g1⟩ | ⟨h0, h1, h2, g1⟩ | ⟨h0, h1, h2, h3, g1⟩
    all_goals
      go_enter Try.func22, Try.ntmps22
      go_wp2_with fail
      refine bodyPost_ret (v := .tuple #[iv 0 0, .int .i64 1]) (by simp [results, Try.results22, go_sem, *]) rfl ⟨rfl, ?_⟩
      exact ((Below.refl _ w).alloc (Nat.le_refl _) _).alloc (by simp) _ |>.alloc (by simp; omega) _
end K
end Go.Proofs.Ytlmbpbhdbgadjaa
