/-
  Package clock: contracts of its functions on intervals.
-/
import Derived.Test.YtlmbpbhdbgadjaaRows
import Derived.Test.YtlmbpbhdbgadjaaKMath
import Derived.Test.YtlmbpbhdbgadjaaApp2
import Derived.Deep.DeepCutAuto
import Derived.Deep.RegionHeld3
import Derived.Deep.QuietTactic
import Derived.IntWalk
import Derived.Laws.Bits128
namespace Go.Proofs.Ytlmbpbhdbgadjaa
open Go.RowKit
namespace K
open H
set_option linter.unusedVariables false
set_option maxRecDepth 100000
/-- An interval; a correlation. -/
abbrev iv (lo hi : Int) : Value := .agg #[.int .i64 lo, .int .i64 hi]
abbrev sm (s r q : Int) : Value := .agg #[.int .i64 s, .int .i64 r, .int .i64 q]
theorem mask16 (n : Int) : bits .and .i64 n 65535 = n % 65536 := by
  have h127 : (BitVec.ofInt 64 65535).toNat = 2 ^ 16 - 1 := by decide
  have key : (BitVec.ofInt 64 n &&& BitVec.ofInt 64 65535).toNat = (n % ((2 ^ 64 : Nat) : Int)).toNat % 2 ^ 16 := by
    rw [BitVec.toNat_and, BitVec.toNat_ofInt, h127, Nat.and_two_pow_sub_one_eq_mod]
  show IntKind.i64.wrap ((BitVec.ofInt 64 n &&& BitVec.ofInt 64 65535).toNat : Nat) = n % 65536
  rw [key, IntKind.wrap_i64]
  omega
theorem mask16_wrap (n : Int) : bits .and .i64 (wrap64 n) 65535 = n % 65536 := by
  rw [mask16]
  unfold wrap64
  omega
theorem bcell {W w1 : World} (hb : Below W.heap.size W w1) : (∀ b o, b < W.heap.size → w1.cell? ⟨b, o, none⟩ = W.cell? ⟨b, o, none⟩) ∧ (∀ b o, b < W.heap.size → w1.frozen? ⟨b, o, none⟩ = W.frozen? ⟨b, o, none⟩) :=
  ⟨fun b o h => hb.cell (p := ⟨b, o, none⟩) h, fun b o h => hb.frozen (p := ⟨b, o, none⟩) h⟩
theorem cell_top (w : World) (cs : Array Value) (t : TypeId) (o : Nat) : (w.alloc (.cells cs t)).cell? ⟨w.heap.size, o, none⟩ = cs[o]? := by
  rw [World.cell?_alloc_at _ _ _ _ (by simp)]
theorem cell_at {w : World} {cs : Array Value} {t : TypeId} {b o : Nat} (hb : b = w.heap.size) : (w.alloc (.cells cs t)).cell? ⟨b, o, none⟩ = cs[o]? := by
  subst hb; exact cell_top w cs t o
theorem cell_under {W : World} {a : Addr} {v : Value} (o : Obj) (h : W.cell? a = some v) : (W.alloc o).cell? a = some v :=
  (((Below.refl W.heap.size W).alloc (Nat.le_refl _) o).cell (World.block_lt_of_cell? _ _ h)).trans h
theorem heap_top (w : World) (o : Obj) : (w.alloc o).heap[w.heap.size]? = some o := by
  show (w.heap.push o)[w.heap.size]? = _
  simp
theorem heap_keep {W w3 : World} {b : Nat} {o : Obj} (hB : Below W.heap.size W w3) (h : W.heap[b]? = some o) : w3.heap[b]? = some o := by
  have hb : b < W.heap.size := by
    by_cases hb : b < W.heap.size
    · exact hb
    · rw [Array.getElem?_eq_none (by omega)] at h; cases h
  exact (hB.block b hb).trans h
theorem row_cells {W : World} {b : Nat} {x y : Value} {t : TypeId} (h : W.heap[b]? = some (Obj.cells #[x, y] t)) : W.cell? ⟨b, 0, none⟩ = some x ∧ W.cell? ⟨b, 1, none⟩ = some y ∧ W.frozen? ⟨b, 0, none⟩ = false ∧ W.frozen? ⟨b, 1, none⟩ = false := by
  simp [World.cell?, World.frozen?, h]
theorem sizeI : (Try.prog.info? 25).map (·.size) = some 2 := by kernel_rfl
theorem one2 (a b : Int) : (#[Value.int .i64 a, .int .i64 b].all (·.oneCell')) = true := by simp [Value.oneCell']
theorem below_cell {W w3 : World} {a : Addr} {v : Value} (hB : Below W.heap.size W w3) (h : W.cell? a = some v) : w3.cell? a = some v := (hB.cell (World.block_lt_of_cell? _ _ h)).trans h
set_option maxHeartbeats 1000000 in
theorem limited_any (n : Int) (w : World) : Calls Try.prog 46 #[.int .i64 n] w fun e w' => e = .returned (.int .i64 (lim n)) ∧ w' = w := by
  by_cases h : n < 0
  · have hl : lim n = 0 := by unfold lim; rw [if_pos h]
    rw [hl]
    clear hl
    go_enter Try.func46, Try.ntmps46
    go_wp2_with fail
    go_ret
    exact ⟨rfl, rfl⟩
  · by_cases h2 : 1000000 < n
    · have hl : lim n = 1000000 := by unfold lim; rw [if_neg h, if_pos h2]
      rw [hl]
      clear hl
      go_enter Try.func46, Try.ntmps46
      go_wp2_with fail
      go_ret
      exact ⟨rfl, rfl⟩
    · have hl : lim n = n := by unfold lim; rw [if_neg h, if_neg h2]
      rw [hl]
      clear hl
      go_enter Try.func46, Try.ntmps46
      go_wp2_with fail
      go_ret
      exact ⟨rfl, rfl⟩
set_option maxHeartbeats 1000000 in
theorem gerr_any (c d : Int) (w : World) (hc : 0 ≤ c) (hc2 : c ≤ 1099511627776) (hd : 1 ≤ d) (hd2 : d ≤ 1000000) : Calls Try.prog 45 #[.int .i64 c, .int .i64 d] w fun e w' => e = .returned (.int .i64 (cd c d)) ∧ w' = w := by
  have hm : ¬ (d < 1) := by omega
  have hz : ¬ (d = 0) := by omega
  have e2 : (c + d - 1).tdiv d = cd c d := Int.tdiv_eq_ediv_of_nonneg (by omega)
  have b0 := cd_nonneg hc hd
  have b1 := cd_self hc hd
  generalize cd c d = k at *
  go_enter Try.func45, Try.ntmps45
  go_wp2_with fail
  go_ret
  exact ⟨rfl, rfl⟩
set_option maxHeartbeats 1000000 in
theorem isTick_any (n : Int) (w : World) : Calls Try.prog 54 #[.int .i64 n] w fun e w' => e = .returned (.bool (decide (0 ≤ n) && decide (n ≤ 1000000))) ∧ w' = w := by
  by_cases h : 0 ≤ n
  all_goals
    go_enter Try.func54, Try.ntmps54
    go_wp2_with fail
    go_ret
    exact ⟨by simp [h] <;> omega, rfl⟩
set_option maxHeartbeats 1000000 in
theorem unwrap_any (a b : Int) (w : World) (ha : 0 ≤ a) (ha2 : a ≤ 1099511627776) (hb : -9223372036854775808 ≤ b) (hb2 : b ≤ 9223372036854775807) : Calls Try.prog 24 #[.int .i64 a, .int .i64 b] w fun e w' => e = .returned (.int .i64 (unw a b)) ∧ w' = w := by
  have hm := mask16_wrap (b - a)
  have hb3 := Int.emod_nonneg (b - a) (show (65536 : Int) ≠ 0 by omega)
  have hb4 := Int.emod_lt_of_pos (b - a) (show (0 : Int) < 65536 by omega)
  have hu : unw a b = a + (b - a) % 65536 := rfl
  rw [hu]
  generalize (b - a) % 65536 = q at *
  clear hu hb hb2
  go_enter Try.func24, Try.ntmps24
  go_wp2_with fail
  go_ret
  exact ⟨rfl, rfl⟩
set_option maxHeartbeats 1000000 in
theorem judge_any (lo hi a b : Int) (w : World) : Calls Try.prog 26 #[iv lo hi, .int .i64 a, .int .i64 b] w fun e w' => e = .returned (.int .i64 (jud lo hi a b)) ∧ Below w.heap.size w w' := by
  unfold jud
  go_enter Try.func26, Try.ntmps26
  go_wp2_with fail
  all_goals
    go_ret
    exact ⟨rfl, (Below.refl _ w).alloc (Nat.le_refl _) _⟩
set_option maxHeartbeats 1000000 in
theorem advance_any (lo hi c d : Int) (w : World) (hl : -1000000 ≤ lo ∧ lo ≤ 1000000) (hh : -1000000 ≤ hi ∧ hi ≤ 1000000) (hc : 0 ≤ c) (hc2 : c ≤ 1099511627776) (hd : 1 ≤ d) (hd2 : d ≤ 1000000) :
    Calls Try.prog 15 #[iv lo hi, .int .i64 c, .int .i64 d] w fun e w' => e = .returned (iv (alo lo c d) (ahi hi c d)) ∧ Below w.heap.size w w' := by
  have HG := Lib.hid (fun W => gerr_any c d W hc hc2 hd hd2)
  have HL := Lib.hid (fun n W => limited_any n W)
  unfold alo ahi
  have b0 := cd_nonneg hc hd
  have b1 := cd_self hc hd
  generalize cd c d = k at *
  have hw1 : IntKind.i64.wrap (lo + c) = lo + c := IntWalk.i64_in _ (by omega)
  have hw2 : IntKind.i64.wrap (lo + c - k) = lo + c - k := IntWalk.i64_in _ (by omega)
  have hw3 : IntKind.i64.wrap (hi + c) = hi + c := IntWalk.i64_in _ (by omega)
  have hw4 : IntKind.i64.wrap (hi + c + k) = hi + c + k := IntWalk.i64_in _ (by omega)
  clear hl hh hc hc2 hd hd2 b0 b1
  go_enter Try.func15, Try.ntmps15
  go_wp2_with (go_at_call 45; refine (HG.out _).mono ?_; rintro r w2 ⟨rfl, rfl⟩)
  go_region_held3 (fun W => W.cell? ⟨w.heap.size, 0, none⟩ = some (.int .i64 lo) ∧ W.cell? ⟨w.heap.size, 1, none⟩ = some (.int .i64 hi)) (first | go_keep | assumption) ((go_at_call 46; refine (HL.out _ _).mono ?_; rintro r w2 ⟨rfl, rfl⟩))
  go_wp2_with fail
  refine bodyPost_ret (v := iv (lim (lo + c - k)) (lim (hi + c + k))) (by simp [results, Try.results15, go_sem]) rfl ⟨rfl, ?_⟩
  exact (((Below.refl _ w).alloc (Nat.le_refl _) _).alloc (by simp) _).drew
set_option maxHeartbeats 1000000 in
theorem plausible_any (s r q now : Int) (w : World) : Calls Try.prog 49 #[sm s r q, .int .i64 now] w fun e w' => e = .returned (.bool (pls s r q now)) ∧ Below w.heap.size w w' := by
  have HT := Lib.hid (fun W => isTick_any q W)
  have key : ∀ (b0 b1 b2 : Bool), decide (0 ≤ s) = b0 → decide (s ≤ r) = b1 → decide (r ≤ now) = b2 → pls s r q now = (b0 && b1 && b2 && (decide (0 ≤ q) && decide (q ≤ 1000000))) := by
    intro b0 b1 b2 h0 h1 h2; unfold pls; rw [h0, h1, h2]; cases b0 <;> cases b1 <;> cases b2 <;> simp
  rcases Decidable.em (0 ≤ s) with h0 | h0
  · rcases Decidable.em (s ≤ r) with h1 | h1
    · rcases Decidable.em (r ≤ now) with h2 | h2
      · rw [key true true true (decide_eq_true h0) (decide_eq_true h1) (decide_eq_true h2)]
        clear key
        go_enter Try.func49, Try.ntmps49
        go_wp2_with (go_at_call 54; refine (HT.out _).mono ?_; rintro e w2 ⟨rfl, rfl⟩)
        go_ret
        exact ⟨by simp, (Below.refl _ w).alloc (Nat.le_refl _) _⟩
      · rw [key true true false (decide_eq_true h0) (decide_eq_true h1) (decide_eq_false h2)]
        clear key
        go_enter Try.func49, Try.ntmps49
        go_wp2_with (go_at_call 54; refine (HT.out _).mono ?_; rintro e w2 ⟨rfl, rfl⟩)
        go_ret
        exact ⟨by simp, (Below.refl _ w).alloc (Nat.le_refl _) _⟩
    · rw [key true false _ (decide_eq_true h0) (decide_eq_false h1) rfl]
      clear key
      go_enter Try.func49, Try.ntmps49
      go_wp2_with (go_at_call 54; refine (HT.out _).mono ?_; rintro e w2 ⟨rfl, rfl⟩)
      go_ret
      exact ⟨by simp, (Below.refl _ w).alloc (Nat.le_refl _) _⟩
  · rw [key false _ _ (decide_eq_false h0) rfl rfl]
    clear key
    go_enter Try.func49, Try.ntmps49
    go_wp2_with (go_at_call 54; refine (HT.out _).mono ?_; rintro e w2 ⟨rfl, rfl⟩)
    go_ret
    exact ⟨by simp, (Below.refl _ w).alloc (Nat.le_refl _) _⟩
theorem arr_bd (q k d : Int) : 0 ≤ arr q k d ∧ arr q k d ≤ 1000000 := lim_bd _
set_option maxHeartbeats 1000000 in
theorem arrival_any (s r q d : Int) (w : World) (hs : 0 ≤ s) (hr : s ≤ r) (hr2 : r ≤ 1099511627776) (hq : 0 ≤ q ∧ q ≤ 1000000) (hd : 1 ≤ d) (hd2 : d ≤ 1000000) :
    Calls Try.prog 50 #[sm s r q, .int .i64 d] w fun e w' => e = .returned (iv q (arr q (r - s) d)) ∧ Below w.heap.size w w' := by
  have HG := Lib.hid (fun W => gerr_any (r - s) d W (by omega) (by omega) hd hd2)
  have HL := Lib.hid (fun n W => limited_any n W)
  have b0 := cd_nonneg (c := r - s) (by omega) hd
  have b1 := cd_self (c := r - s) (by omega) hd
  have hL : lim (q + (r - s) + cd (r - s) d) = arr q (r - s) d := rfl
  generalize arr q (r - s) d = L at hL ⊢
  go_enter Try.func50, Try.ntmps50
  go_wp2_with fail
  have hcb : 0 ≤ r - s ∧ r - s ≤ 1099511627776 := by omega
  generalize r - s = c at *
  generalize cd c d = k at *
  have hw1 : IntKind.i64.wrap (q + c) = q + c := IntWalk.i64_in _ (by omega)
  have hw2 : IntKind.i64.wrap (q + c + k) = q + c + k := IntWalk.i64_in _ (by omega)
  clear hs hr hr2 hq hd hd2 b0 b1 hcb
  go_region_held3 (fun W => W.cell? ⟨w.heap.size, 2, none⟩ = some (.int .i64 q)) (first | go_keep | assumption) ((first | (go_at_call 46; refine (HL.out _ _).mono ?_; rintro r w2 ⟨rfl, rfl⟩) | (go_at_call 45; refine (HG.out _).mono ?_; rintro r w2 ⟨rfl, rfl⟩)))
  go_wp2_with fail
  refine bodyPost_ret (v := iv q L) (by simp [results, Try.results50, go_sem]) rfl ⟨rfl, ?_⟩
  exact (((Below.refl _ w).alloc (Nat.le_refl _) _).alloc (by simp) _).drew
end K
end Go.Proofs.Ytlmbpbhdbgadjaa
