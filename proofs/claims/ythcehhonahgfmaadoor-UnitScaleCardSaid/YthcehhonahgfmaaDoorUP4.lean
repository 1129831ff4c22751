/-
  Contracts of the program's functions of quantities: quotient, Div, Compare.
-/
import Derived.Test.YthcehhonahgfmaaDoorUP3
namespace Go.Proofs.YthcehhonahgfmaaDoor
open Go.RowKit
namespace U
open H
set_option linter.unusedVariables false

theorem fdiv_rule (a b : Int) (hb : b ≠ 0) : a.fdiv b = if a.tmod b ≠ 0 ∧ decide (a < 0) ≠ decide (b < 0) then a.tdiv b - 1 else a.tdiv b := by
  have hs1 : 0 ≤ a → 0 ≤ a.tmod b := Int.tmod_nonneg b
  have hs2 : a ≤ 0 → a.tmod b ≤ 0 := fun h => by
    have := Int.tmod_nonneg b (show 0 ≤ -a by omega)
    rw [Int.neg_tmod] at this
    omega
  by_cases h2 : b < 0
  · rw [fdiv_neg _ _ h2, floor_eq (-a) (-b) (by omega), Int.neg_tdiv_neg, Int.neg_tmod, Int.tmod_neg]
    by_cases h1 : a < 0
    · rw [if_neg (by have := hs2 (by omega); omega), if_neg (fun h => h.2 (by simp [h1, h2]))]
    · by_cases hm : a.tmod b = 0
      · rw [if_neg (by omega), if_neg (fun h => h.1 hm)]
      · rw [if_pos (by have := hs1 (by omega); omega), if_pos ⟨hm, by simp [h1, h2]⟩]
  · rw [fdiv_pos _ _ (by omega), floor_eq a b (by omega)]
    by_cases h1 : a < 0
    · by_cases hm : a.tmod b = 0
      · rw [if_neg (by omega), if_neg (fun h => h.1 hm)]
      · rw [if_pos (by have := hs2 (by omega); omega), if_pos ⟨hm, by simp [h1, h2]⟩]
    · rw [if_neg (by have := hs1 (by omega); omega), if_neg (fun h => h.2 (by simp [h1, h2]))]
theorem tdiv_bd2 (a b : Int) (ha : -4294967296 ≤ a ∧ a ≤ 4294967296) : -4294967296 ≤ a.tdiv b ∧ a.tdiv b ≤ 4294967296 := by
  have h := Int.natAbs_tdiv a b
  have h2 : a.natAbs / b.natAbs ≤ a.natAbs := Nat.div_le_self _ _
  have h3 : (a.tdiv b).natAbs ≤ a.natAbs := by rw [h]; exact h2
  omega
set_option maxRecDepth 100000 in
set_option maxHeartbeats 1000000 in
theorem pquot_any (a b : Int) (w : World) (ha : -4294967296 ≤ a ∧ a ≤ 4294967296) (hb : -4294967296 ≤ b ∧ b ≤ 4294967296) (h0 : b ≠ 0) :
    Calls Tryd.prog 49 #[.int .i64 a, .int .i64 b] w fun r w' => r = .returned (.int .i64 (a.fdiv b)) ∧ w' = w := by
  have hq := tdiv_bd2 a b ha
  have hr := fdiv_rule a b h0
  have hb0 : (b == 0) = false := by simp [h0]
  by_cases hm : a.tmod b = 0
  · rw [if_neg (fun h => h.1 hm)] at hr
    have hm1 : (a.tmod b != 0) = false := by simp [hm]
    rw [hr]
    clear hr
    go_enter Tryd.func49, Tryd.ntmps49
    go_wp2_with fail
    go_ret
    exact ⟨rfl, rfl⟩
  · have hm1 : (a.tmod b != 0) = true := by simp [hm]
    by_cases hs : decide (a < 0) = decide (b < 0)
    · rw [if_neg (fun h => h.2 hs)] at hr
      have hE : (decide (a < 0) == decide (b < 0)) = true := by simpa using hs
      rw [hr]
      clear hr
      go_enter Tryd.func49, Tryd.ntmps49
      go_wp2_with fail
      go_ret
      exact ⟨rfl, rfl⟩
    · rw [if_pos ⟨hm, hs⟩] at hr
      have hE : (decide (a < 0) == decide (b < 0)) = false := by simpa using hs
      rw [hr]
      clear hr
      go_enter Tryd.func49, Tryd.ntmps49
      go_wp2_with fail
      go_ret
      exact ⟨rfl, rfl⟩
set_option maxRecDepth 100000 in
set_option maxHeartbeats 1000000 in
theorem pdiv_any (x y : Qt) (w : World) (hx : x.valid) (hy : y.valid) :
    Calls Tryd.prog 33 #[.agg #[.int .i64 x.n, .int .i64 x.m.e, .int .i64 x.m.d, .int .i64 x.m.t, .int .i64 x.m.a, .int .i64 x.m.h], .agg #[.int .i64 y.n, .int .i64 y.m.e, .int .i64 y.m.d, .int .i64 y.m.t, .int .i64 y.m.a, .int .i64 y.m.h]] w fun r w' => r = .returned (.tuple #[.agg #[.int .i64 (divQ x y).1.n, .int .i64 (divQ x y).1.m.e, .int .i64 (divQ x y).1.m.d, .int .i64 (divQ x y).1.m.t, .int .i64 (divQ x y).1.m.a, .int .i64 (divQ x y).1.m.h], .int .i64 (divQ x y).2]) ∧ Below w.heap.size w w' := by
  by_cases h0 : y.n = 0
  · have HA := Lib.hid (show divQ x y = (Qt.zero, 1) from if_pos h0)
    have h0b : (y.n == 0) = true := by simp [h0]
    have HRES := Lib.hid (b32 w (.cells #[.int .i64 x.n, .int .i64 x.m.e, .int .i64 x.m.d, .int .i64 x.m.t, .int .i64 x.m.a, .int .i64 x.m.h] 32) (.cells #[.int .i64 y.n, .int .i64 y.m.e, .int .i64 y.m.d, .int .i64 y.m.t, .int .i64 y.m.a, .int .i64 y.m.h] 32) (.cells #[.int .i64 0, .int .i64 0, .int .i64 0, .int .i64 0, .int .i64 0, .int .i64 0] 32))
    have HB := Lib.hid (bel3 w (.cells #[.int .i64 x.n, .int .i64 x.m.e, .int .i64 x.m.d, .int .i64 x.m.t, .int .i64 x.m.a, .int .i64 x.m.h] 32) (.cells #[.int .i64 y.n, .int .i64 y.m.e, .int .i64 y.m.d, .int .i64 y.m.t, .int .i64 y.m.a, .int .i64 y.m.h] 32) (.cells #[.int .i64 0, .int .i64 0, .int .i64 0, .int .i64 0, .int .i64 0, .int .i64 0] 32))
    clear hx hy h0
    go_enter Tryd.func33, Tryd.ntmps33
    go_wp2_with (refine wpList_store_row rfl 32 _ _ rfl (w.heap.size + 1 + 1) #[.int .i64 0, .int .i64 0, .int .i64 0, .int .i64 0, .int .i64 0, .int .i64 0] rfl rfl 32 _ HRES.out sizeQ rfl (one6 _ _ _ _ _ _) ?_)
    refine bodyPost_ret (v := .tuple #[.agg #[.int .i64 0, .int .i64 0, .int .i64 0, .int .i64 0, .int .i64 0, .int .i64 0], .int .i64 1]) (results_row_tmp (ty := 32) rfl _ _ (w.heap.size + 1 + 1) 32 #[.int .i64 0, .int .i64 0, .int .i64 0, .int .i64 0, .int .i64 0, .int .i64 0] (0, 0) _ _ rfl rfl (setRow_heap _ _ _ _ _ _ HRES.out) Tryd.underlying32 rfl sizeQ) rfl ⟨?_, below_setRow HB.out (by omega) _⟩
    rw [HA.out]
    rfl
  · have HO := Lib.hid (fun W => pover_any x.m y.m W (by have := hx.2; unfold Dm.in at *; omega) (by have := hy.2; unfold Dm.in at *; omega))
    have hD : divQ x y = chk ⟨x.n.fdiv y.n, x.m.over y.m⟩ := if_neg h0
    rw [hD]
    clear hD
    have h0b : (y.n == 0) = false := by simp [h0]
    have hxn := hx.1
    have hyn := hy.1
    clear hx hy
    have HF := Lib.hid (fun W => pquot_any x.n y.n W (by omega) (by omega) h0)
    have HCK := Lib.hid (fun W => pchecked_any ⟨x.n.fdiv y.n, x.m.over y.m⟩ W)
    generalize chk ⟨x.n.fdiv y.n, x.m.over y.m⟩ = c at *
    generalize x.n.fdiv y.n = qn at *
    go_enter Tryd.func33, Tryd.ntmps33
    go_wp2_with fail
    have hS9 := keepS (w := w) (x := x) (y := y)
    refine wp_region_noPanic ?_
    refine wp_region_held_drew (S := (fun W1 => (∀ o, W1.cell? ⟨w.heap.size, o, none⟩ = (#[.int .i64 x.n, .int .i64 x.m.e, .int .i64 x.m.d, .int .i64 x.m.t, .int .i64 x.m.a, .int .i64 x.m.h] : Array Value)[o]?) ∧ (∀ o, W1.cell? ⟨w.heap.size + 1, o, none⟩ = (#[.int .i64 y.n, .int .i64 y.m.e, .int .i64 y.m.d, .int .i64 y.m.t, .int .i64 y.m.a, .int .i64 y.m.h] : Array Value)[o]?) ∧ (∃ cur, W1.heap[w.heap.size + 1 + 1]? = some (.cells cur 32 (0, 0)) ∧ cur.size = 6) ∧ w.heap.size + 1 + 1 < W1.heap.size ∧ Below w.heap.size w W1)) (by kernel_rfl) (keepS) (fun hHeld => ?_)
    refine wpAnyH_take (i := 0) (oi := { dst := some 10, op := _, type := _, pos := _, after := _, guard := _ }) (v := ?_) rfl (by kernel_rfl) (by kernel_rfl) (by kernel_rfl) (fun _ _ _ h => h) (Or.inl ⟨by rfl, ?_⟩) (by assumption) ?_
    rotate_left
    · (intro w hSw; (try dsimp only at hSw); (try obtain ⟨hS0, hS1, hS2, hS3, hS4⟩ := hSw); go_simp)
      first | done | with_reducible rfl
    try simp only [Act.put, List.setIfInBounds_toArray, List.set_cons_zero, List.set_cons_succ]
    refine wpAnyH_take (i := 1) (oi := { dst := some 11, op := _, type := _, pos := _, after := _, guard := _ }) (v := ?_) rfl (by kernel_rfl) (by kernel_rfl) (by kernel_rfl) (fun _ _ _ h => h) (Or.inl ⟨by rfl, ?_⟩) (by assumption) ?_
    rotate_left
    · (intro w hSw; (try dsimp only at hSw); (try obtain ⟨hS0, hS1, hS2, hS3, hS4⟩ := hSw); go_simp)
      first | done | with_reducible rfl
    try simp only [Act.put, List.setIfInBounds_toArray, List.set_cons_zero, List.set_cons_succ]
    refine wpAnyH_take (i := 2) (oi := { dst := some 12, op := _, type := _, pos := _, after := _, guard := _ }) (v := ?_) rfl (by kernel_rfl) (by kernel_rfl) (by kernel_rfl) (fun _ _ _ h => h) (Or.inl ⟨by rfl, ?_⟩) (by assumption) ?_
    rotate_left
    · (intro w hSw; (try dsimp only at hSw); (try obtain ⟨hS0, hS1, hS2, hS3, hS4⟩ := hSw); go_simp)
      first | done | with_reducible rfl
    try simp only [Act.put, List.setIfInBounds_toArray, List.set_cons_zero, List.set_cons_succ]
    refine wpAnyH_take (i := 3) (oi := { dst := some 13, op := _, type := _, pos := _, after := _, guard := _ }) (v := ?_) rfl (by kernel_rfl) (by kernel_rfl) (by kernel_rfl) (fun _ _ _ h => h) (Or.inl ⟨by rfl, ?_⟩) (by assumption) ?_
    rotate_left
    · (intro w hSw; (try dsimp only at hSw); (try obtain ⟨hS0, hS1, hS2, hS3, hS4⟩ := hSw); go_simp)
      first | done | with_reducible rfl
    try simp only [Act.put, List.setIfInBounds_toArray, List.set_cons_zero, List.set_cons_succ]
    refine wpAnyH_take (i := 5) (oi := { dst := some 15, op := _, type := _, pos := _, after := _, guard := _ }) (v := ?_) rfl (by kernel_rfl) (by kernel_rfl) (by kernel_rfl) (fun _ _ _ h => h) (Or.inl ⟨by rfl, ?_⟩) (by assumption) ?_
    rotate_left
    · (intro w hSw; (try dsimp only at hSw); (try obtain ⟨hS0, hS1, hS2, hS3, hS4⟩ := hSw); go_simp)
      first | done | with_reducible rfl
    try simp only [Act.put, List.setIfInBounds_toArray, List.set_cons_zero, List.set_cons_succ]
    refine wpAnyH_take (i := 6) (oi := { dst := some 16, op := _, type := _, pos := _, after := _, guard := _ }) (v := ?_) rfl (by kernel_rfl) (by kernel_rfl) (by kernel_rfl) (fun _ _ _ h => h) (Or.inl ⟨by rfl, ?_⟩) (by assumption) ?_
    rotate_left
    · (intro w hSw; (try dsimp only at hSw); (try obtain ⟨hS0, hS1, hS2, hS3, hS4⟩ := hSw); go_simp)
      first | done | with_reducible rfl
    try simp only [Act.put, List.setIfInBounds_toArray, List.set_cons_zero, List.set_cons_succ]
    refine wpAnyH_take (i := 7) (oi := { dst := some 17, op := _, type := _, pos := _, after := _, guard := _ }) (v := ?_) rfl (by kernel_rfl) (by kernel_rfl) (by kernel_rfl) (fun _ _ _ h => h) (Or.inl ⟨by rfl, ?_⟩) (by assumption) ?_
    rotate_left
    · (intro w hSw; (try dsimp only at hSw); (try obtain ⟨hS0, hS1, hS2, hS3, hS4⟩ := hSw); go_simp)
      first | done | with_reducible rfl
    try simp only [Act.put, List.setIfInBounds_toArray, List.set_cons_zero, List.set_cons_succ]
    refine wpAnyH_take (i := 8) (oi := { dst := some 18, op := _, type := _, pos := _, after := _, guard := _ }) (v := ?_) rfl (by kernel_rfl) (by kernel_rfl) (by kernel_rfl) (fun _ _ _ h => h) (Or.inl ⟨by rfl, ?_⟩) (by assumption) ?_
    rotate_left
    · (intro w hSw; (try dsimp only at hSw); (try obtain ⟨hS0, hS1, hS2, hS3, hS4⟩ := hSw); go_simp)
      first | done | with_reducible rfl
    try simp only [Act.put, List.setIfInBounds_toArray, List.set_cons_zero, List.set_cons_succ]
    refine wpAnyH_ready (rs := [4]) (by kernel_rfl) (by simp) ?_
    refine AllReadyH.cons (o := { dst := some 14, op := _, type := _, pos := _, after := _, guard := _ }) rfl (fun K hK => ?_) AllReadyH.nil
    go_simp
    refine (HF.out _).mono ?_
    rintro r w1 ⟨rfl, hw⟩
    have hS10 : (fun W1 => (∀ o, W1.cell? ⟨w.heap.size, o, none⟩ = (#[.int .i64 x.n, .int .i64 x.m.e, .int .i64 x.m.d, .int .i64 x.m.t, .int .i64 x.m.a, .int .i64 x.m.h] : Array Value)[o]?) ∧ (∀ o, W1.cell? ⟨w.heap.size + 1, o, none⟩ = (#[.int .i64 y.n, .int .i64 y.m.e, .int .i64 y.m.d, .int .i64 y.m.t, .int .i64 y.m.a, .int .i64 y.m.h] : Array Value)[o]?) ∧ (∃ cur, W1.heap[w.heap.size + 1 + 1]? = some (.cells cur 32 (0, 0)) ∧ cur.size = 6) ∧ w.heap.size + 1 + 1 < W1.heap.size ∧ Below w.heap.size w W1) w1 := by rw [hw]; exact hS9
    clear hw
    go_wp2_with fail
    refine hK.out _ _ hS10 (fun hH2 => ?_)
    clear hK K hHeld
    rename _ => hHeld
    try simp only [Act.put, List.setIfInBounds_toArray, List.set_cons_zero, List.set_cons_succ]
    refine wpAnyH_ready (rs := [9]) (by kernel_rfl) (by simp) ?_
    refine AllReadyH.cons (o := { dst := some 19, op := _, type := _, pos := _, after := _, guard := _ }) rfl (fun K hK => ?_) AllReadyH.nil
    go_simp
    refine (HO.out _).mono ?_
    rintro r w2 ⟨rfl, hB⟩
    have hS11 := stepS hS10 hB
    clear hB
    go_wp2_with fail
    refine hK.out _ _ hS11 (fun hH2 => ?_)
    clear hK K hHeld
    rename _ => hHeld
    try simp only [Act.put, List.setIfInBounds_toArray, List.set_cons_zero, List.set_cons_succ]
    refine wpAnyH_take (i := 10) (oi := { dst := some 20, op := _, type := _, pos := _, after := _, guard := _ }) (v := ?_) rfl (by kernel_rfl) (by kernel_rfl) (by kernel_rfl) (fun _ _ _ h => h) (Or.inl ⟨by rfl, ?_⟩) (by assumption) ?_
    rotate_left
    · (intro w hSw; (try dsimp only at hSw); (try obtain ⟨hS0, hS1, hS2, hS3, hS4⟩ := hSw); go_simp)
      first | done | with_reducible rfl
    try simp only [Act.put, List.setIfInBounds_toArray, List.set_cons_zero, List.set_cons_succ]
    refine wpAnyH_ready (rs := [11]) (by kernel_rfl) (by simp) ?_
    refine AllReadyH.cons (o := { dst := some 21, op := _, type := _, pos := _, after := _, guard := _ }) rfl (fun K hK => ?_) AllReadyH.nil
    go_simp
    refine (HCK.out _).mono ?_
    rintro r w3 ⟨rfl, hB⟩
    have hS12 := stepS hS11 hB
    clear hB
    go_wp2_with fail
    refine hK.out _ _ hS12 (fun hH2 => ?_)
    clear hK K hHeld
    rename _ => hHeld
    try simp only [Act.put, List.setIfInBounds_toArray, List.set_cons_zero, List.set_cons_succ]
    refine wpAnyH_take (i := 12) (oi := { dst := some 22, op := _, type := _, pos := _, after := _, guard := _ }) (v := ?_) rfl (by kernel_rfl) (by kernel_rfl) (by kernel_rfl) (fun _ _ _ h => h) (Or.inl ⟨by rfl, ?_⟩) (by assumption) ?_
    rotate_left
    · (intro w hSw; (try dsimp only at hSw); (try obtain ⟨hS0, hS1, hS2, hS3, hS4⟩ := hSw); go_simp)
      first | done | with_reducible rfl
    try simp only [Act.put, List.setIfInBounds_toArray, List.set_cons_zero, List.set_cons_succ]
    refine wpAnyH_take (i := 13) (oi := { dst := some 23, op := _, type := _, pos := _, after := _, guard := _ }) (v := ?_) rfl (by kernel_rfl) (by kernel_rfl) (by kernel_rfl) (fun _ _ _ h => h) (Or.inl ⟨by rfl, ?_⟩) (by assumption) ?_
    rotate_left
    · (intro w hSw; (try dsimp only at hSw); (try obtain ⟨hS0, hS1, hS2, hS3, hS4⟩ := hSw); go_simp)
      first | done | with_reducible rfl
    try simp only [Act.put, List.setIfInBounds_toArray, List.set_cons_zero, List.set_cons_succ]
    refine wpAnyH_ready (rs := [14]) (by kernel_rfl) (by simp) ?_
    refine AllReadyH.cons (o := { dst := none, op := _, type := _, pos := _, after := _, guard := _ }) rfl (fun K hK => ?_) AllReadyH.nil
    refine if_wanted rfl ?_
    obtain ⟨cur, hcur, hcs⟩ := hS12.2.2.1
    refine wp_store_row 32 _ _ rfl (w.heap.size + 1 + 1) #[.int .i64 c.1.n, .int .i64 c.1.m.e, .int .i64 c.1.m.d, .int .i64 c.1.m.t, .int .i64 c.1.m.a, .int .i64 c.1.m.h] rfl rfl 32 cur hcur sizeQ hcs (one6 _ _ _ _ _ _) ?_
    have hS13 := storeS (cs := #[.int .i64 c.1.n, .int .i64 c.1.m.e, .int .i64 c.1.m.d, .int .i64 c.1.m.t, .int .i64 c.1.m.a, .int .i64 c.1.m.h]) hS12 rfl
    refine hK.out _ _ hS13 (fun hH2 => ?_)
    clear hK K hHeld
    rename _ => hHeld
    try simp only [Act.put]
    refine wpAnyH_take (i := 15) (oi := { dst := some 5, op := _, type := _, pos := _, after := _, guard := _ }) (v := ?_) rfl (by kernel_rfl) (by kernel_rfl) (by kernel_rfl) (fun _ _ _ h => h) (Or.inl ⟨by rfl, ?_⟩) (by assumption) ?_
    rotate_left
    · (intro w hSw; (try dsimp only at hSw); (try obtain ⟨hS0, hS1, hS2, hS3, hS4⟩ := hSw); go_simp)
      first | done | with_reducible rfl
    try simp only [Act.put, List.setIfInBounds_toArray, List.set_cons_zero, List.set_cons_succ]
    refine wpAnyH_done (by kernel_rfl) ?_ _
    refine NoPanic.normal ?_
    have HB := Lib.hid hS13.2.2.2.2
    have HRES2 := Lib.hid (setRow_heap _ _ _ #[.int .i64 c.1.n, .int .i64 c.1.m.e, .int .i64 c.1.m.d, .int .i64 c.1.m.t, .int .i64 c.1.m.a, .int .i64 c.1.m.h] _ _ hcur)
    clear hHeld hS9 hS10 hS11 hS12 hS13
    go_wp2_with fail
    refine bodyPost_ret (v := .tuple #[.agg #[.int .i64 c.1.n, .int .i64 c.1.m.e, .int .i64 c.1.m.d, .int .i64 c.1.m.t, .int .i64 c.1.m.a, .int .i64 c.1.m.h], .int .i64 c.2]) (results_row_tmp (ty := 32) rfl _ _ (w.heap.size + 1 + 1) 32 #[.int .i64 c.1.n, .int .i64 c.1.m.e, .int .i64 c.1.m.d, .int .i64 c.1.m.t, .int .i64 c.1.m.a, .int .i64 c.1.m.h] (0, 0) _ _ rfl rfl HRES2.out Tryd.underlying32 rfl sizeQ) rfl ⟨?_, HB.out⟩
    rfl
set_option maxRecDepth 100000 in
set_option maxHeartbeats 1000000 in
theorem pcmp_any (x y : Qt) (w : World) :
    Calls Tryd.prog 35 #[.agg #[.int .i64 x.n, .int .i64 x.m.e, .int .i64 x.m.d, .int .i64 x.m.t, .int .i64 x.m.a, .int .i64 x.m.h], .agg #[.int .i64 y.n, .int .i64 y.m.e, .int .i64 y.m.d, .int .i64 y.m.t, .int .i64 y.m.a, .int .i64 y.m.h]] w fun r w' => r = .returned (.tuple #[.int .i64 (cmpQ x y).1, .int .i64 (cmpQ x y).2]) ∧ Below w.heap.size w w' := by
  have hneq := fun W => run_neq_dim x.m y.m W
  have HCM := Lib.hid (fun W => Tryd.cmp_Compare_int x.n y.n W)
  by_cases hm : x.m = y.m
  · rw [decide_eq_true hm] at hneq
    have HN := Lib.hid hneq
    have HA := Lib.hid (show cmpQ x y = (Lib.compareInt x.n y.n, 0) by unfold cmpQ; rw [if_pos hm]; rfl)
    clear hm hneq
    go_enter Tryd.func35, Tryd.ntmps35
    go_wp2_with (refine wpList_yield rfl (exec_binop .neq 23 23 (.tmp 7) (.tmp 9) rfl _ _ rfl rfl (run_eqGuard_agg _ _ _ _ _ _ _ (by kernel_rfl)) (HN.out _)) ?_)
    refine (HCM.out _).mono ?_
    rintro r w1 ⟨rfl, rfl⟩
    go_wp2_with fail
    go_ret2
    exact ⟨by rw [HA.out]; rfl, bel2 w _ _⟩
  · have HA := Lib.hid (show cmpQ x y = (0, 10) from if_neg hm)
    rw [decide_eq_false hm] at hneq
    have HN := Lib.hid hneq
    clear hm hneq
    go_enter Tryd.func35, Tryd.ntmps35
    go_wp2_with (refine wpList_yield rfl (exec_binop .neq 23 23 (.tmp 7) (.tmp 9) rfl _ _ rfl rfl (run_eqGuard_agg _ _ _ _ _ _ _ (by kernel_rfl)) (HN.out _)) ?_)
    go_ret2
    exact ⟨by rw [HA.out]; rfl, bel2 w _ _⟩
end U
end Go.Proofs.YthcehhonahgfmaaDoor
