/-
  Windows: the functions of windows that call others; the closures of the queries.
-/
import Derived.Test.YtojflmejkigdiaaQV1
namespace Go.Proofs.Ytojflmejkigdiaa
open Go.RowKit
namespace Q
open H
set_option linter.unusedVariables false
set_option linter.unusedSimpArgs false
set_option maxRecDepth 100000
/-- A window's box. -/
structure Bx (W : World) (b : Nat) (x : Wn) : Prop where
  c0 : W.cell? ⟨b, 0, none⟩ = some (.int .i64 x.kind)
  c1 : W.cell? ⟨b, 1, none⟩ = some (.int .i64 x.a)
  c2 : W.cell? ⟨b, 2, none⟩ = some (.int .i64 x.b)
  c3 : W.cell? ⟨b, 3, none⟩ = some (.int .i64 x.fr)
  c4 : W.cell? ⟨b, 4, none⟩ = some (.int .i64 x.un)
  c5 : W.cell? ⟨b, 5, none⟩ = some (.int .i64 x.rate)
theorem Bx.call {W V : World} {b : Nat} {x : Wn} (h : Bx W b x) (hB : Below W.heap.size W V) : Bx V b x := ⟨below_cell hB h.c0, below_cell hB h.c1, below_cell hB h.c2, below_cell hB h.c3, below_cell hB h.c4, below_cell hB h.c5⟩
theorem Bx.alloc {W : World} {b : Nat} {x : Wn} (h : Bx W b x) (o : Obj) : Bx (W.alloc o) b x := h.call (bel1 W o)
theorem Bx.new (w : World) (x : Wn) (T : TypeId) : Bx (w.alloc (.cells #[.int .i64 x.kind, .int .i64 x.a, .int .i64 x.b, .int .i64 x.fr, .int .i64 x.un, .int .i64 x.rate] T)) w.heap.size x := ⟨cell_top _ _ _ _, cell_top _ _ _ _, cell_top _ _ _ _, cell_top _ _ _ _, cell_top _ _ _ _, cell_top _ _ _ _⟩

set_option maxHeartbeats 2000000 in
theorem psuits_any (x : Wn) (w : World) : Calls Try.prog 59 #[x.v] w fun e w' => e = .returned (.bool (suits x)) ∧ Below w.heap.size w w' := by
  have HB := Lib.hid (fun W => pbelow_any x.b 9 W)
  have HR := Lib.hid (fun W => prate_any x.rate W)
  have HC := Lib.hid (fun W => pbelow_any x.b 32 W)
  unfold suits
  go_enter Try.func59, Try.ntmps59
  go_wp2_with (first | (go_at_call 52; with_reducible refine (HB.out _).mono ?_; rintro e w2 ⟨rfl, rfl⟩) | (go_at_call 52; with_reducible refine (HC.out _).mono ?_; rintro e w2 ⟨rfl, rfl⟩) | (go_at_call 72; with_reducible refine (HR.out _).mono ?_; rintro e w2 ⟨rfl, rfl⟩))
  all_goals
    go_ret
    exact ⟨by first | rfl | (refine ret_b ?_; first | (simp only [decide_eq_true_eq, decide_eq_false_iff_not, Bool.not_true, Bool.not_false, Bool.true_eq_false, Bool.false_eq_true, true_iff, false_iff, iff_true, iff_false, Bool.and_eq_true, Bool.or_eq_true, Bool.not_eq_true', Bool.or_eq_false_iff, Bool.and_eq_false_imp, Bool.not_eq_eq_eq_not, reduceCtorEq, Bool.not_eq_true, beq_iff_eq, bne_iff_ne, ne_eq, Bool.not_eq_false, beq_eq_false_iff_ne, bne_eq_false_iff_eq, Bool.false_or, Bool.true_and, Bool.or_false, Bool.and_true]; omega) | (simp only [decide_eq_true_eq, decide_eq_false_iff_not, Bool.not_true, Bool.not_false, Bool.true_eq_false, Bool.false_eq_true, true_iff, false_iff, iff_true, iff_false, Bool.and_eq_true, Bool.or_eq_true, Bool.not_eq_true', Bool.or_eq_false_iff, Bool.and_eq_false_imp, Bool.not_eq_eq_eq_not, reduceCtorEq, Bool.not_eq_true, beq_iff_eq, bne_iff_ne, ne_eq, Bool.not_eq_false, beq_eq_false_iff_ne, bne_eq_false_iff_eq, Bool.false_or, Bool.true_and, Bool.or_false, Bool.and_true] at *; first | done | omega) | omega), by first | exact bel1 w _⟩
set_option maxHeartbeats 2000000 in
theorem pmal_any (x : Wn) (w : World) : Calls Try.prog 34 #[x.v] w fun e w' => e = .returned (.bool (!fm x)) ∧ Below w.heap.size w w' := by
  have HB := Lib.hid (fun W => pbelow_any x.a 12 W)
  have HS := Lib.hid (fun W => psuits_any x W)
  unfold fm
  generalize suits x = s at *
  cases s <;> simp only [and_true, and_false, Bool.false_eq_true, decide_false, Bool.not_false]
  all_goals
    go_enter Try.func34, Try.ntmps34
    go_wp2_with (first | (go_at_call 52; with_reducible refine (HB.out _).mono ?_; rintro e w2 ⟨rfl, rfl⟩) | (go_at_call 59; with_reducible refine (HS.out _).mono ?_; rintro e w2 ⟨rfl, hB2⟩))
    all_goals
      go_ret
      exact ⟨by first | rfl | (refine ret_b ?_; first | (simp only [decide_eq_true_eq, decide_eq_false_iff_not, Bool.not_true, Bool.not_false, Bool.true_eq_false, Bool.false_eq_true, true_iff, false_iff, iff_true, iff_false, Bool.and_eq_true, Bool.or_eq_true, Bool.not_eq_true', Bool.or_eq_false_iff, Bool.and_eq_false_imp, Bool.not_eq_eq_eq_not, reduceCtorEq, Bool.not_eq_true, beq_iff_eq, bne_iff_ne, ne_eq, Bool.not_eq_false, beq_eq_false_iff_ne, bne_eq_false_iff_eq, Bool.false_or, Bool.true_and, Bool.or_false, Bool.and_true]; omega) | (simp only [decide_eq_true_eq, decide_eq_false_iff_not, Bool.not_true, Bool.not_false, Bool.true_eq_false, Bool.false_eq_true, true_iff, false_iff, iff_true, iff_false, Bool.and_eq_true, Bool.or_eq_true, Bool.not_eq_true', Bool.or_eq_false_iff, Bool.and_eq_false_imp, Bool.not_eq_eq_eq_not, reduceCtorEq, Bool.not_eq_true, beq_iff_eq, bne_iff_ne, ne_eq, Bool.not_eq_false, beq_eq_false_iff_ne, bne_eq_false_iff_eq, Bool.false_or, Bool.true_and, Bool.or_false, Bool.and_true] at *; first | done | omega) | omega), by first | exact bel1 w _ | exact belT _ hB2⟩
set_option maxHeartbeats 2000000 in
theorem rfm_any (x : Wn) (w : World) : Calls Try.prog 38 #[x.v] w fun e w' => e = .returned (.bool (fm x)) ∧ Below w.heap.size w w' := by
  have HA := Lib.hid (fun W => rin_any x.a 0 11 W)
  have HB := Lib.hid (fun W => rin_any x.b 0 8 W)
  have HR := Lib.hid (fun W => rin_any x.rate 1 1000 W)
  have HC := Lib.hid (fun W => rin_any x.b 0 31 W)
  unfold fm suits
  go_enter Try.func38, Try.ntmps38
  go_wp2_with (first | (go_at_call 62; with_reducible refine (HA.out _).mono ?_; rintro e w2 ⟨rfl, rfl⟩) | (go_at_call 62; with_reducible refine (HB.out _).mono ?_; rintro e w2 ⟨rfl, rfl⟩) | (go_at_call 62; with_reducible refine (HC.out _).mono ?_; rintro e w2 ⟨rfl, rfl⟩) | (go_at_call 62; with_reducible refine (HR.out _).mono ?_; rintro e w2 ⟨rfl, rfl⟩))
  all_goals
    go_ret
    exact ⟨by first | rfl | (refine ret_b ?_; first | (simp only [decide_eq_true_eq, decide_eq_false_iff_not, Bool.not_true, Bool.not_false, Bool.true_eq_false, Bool.false_eq_true, true_iff, false_iff, iff_true, iff_false, Bool.and_eq_true, Bool.or_eq_true, Bool.not_eq_true', Bool.or_eq_false_iff, Bool.and_eq_false_imp, Bool.not_eq_eq_eq_not, reduceCtorEq, Bool.not_eq_true, beq_iff_eq, bne_iff_ne, ne_eq, Bool.not_eq_false, beq_eq_false_iff_ne, bne_eq_false_iff_eq, Bool.false_or, Bool.true_and, Bool.or_false, Bool.and_true]; omega) | (simp only [decide_eq_true_eq, decide_eq_false_iff_not, Bool.not_true, Bool.not_false, Bool.true_eq_false, Bool.false_eq_true, true_iff, false_iff, iff_true, iff_false, Bool.and_eq_true, Bool.or_eq_true, Bool.not_eq_true', Bool.or_eq_false_iff, Bool.and_eq_false_imp, Bool.not_eq_eq_eq_not, reduceCtorEq, Bool.not_eq_true, beq_iff_eq, bne_iff_ne, ne_eq, Bool.not_eq_false, beq_eq_false_iff_ne, bne_eq_false_iff_eq, Bool.false_or, Bool.true_and, Bool.or_false, Bool.and_true] at *; first | done | omega) | omega), by first | exact bel1 w _⟩
set_option maxHeartbeats 2000000 in
theorem rmeet_any (v x : Wn) (w : World) : Calls Try.prog 40 #[v.v, x.v] w fun e w' => e = .returned (.bool (meet v x)) ∧ Below w.heap.size w w' := by
  have HK := Lib.hid (fun W => rkey_any v x.kind x.a x.b W)
  have N1 := (Bx.new w v 31).alloc (.cells #[.int .i64 x.kind, .int .i64 x.a, .int .i64 x.b, .int .i64 x.fr, .int .i64 x.un, .int .i64 x.rate] 31)
  have N2 := Bx.new (w.alloc (.cells #[.int .i64 v.kind, .int .i64 v.a, .int .i64 v.b, .int .i64 v.fr, .int .i64 v.un, .int .i64 v.rate] 31)) x 31
  rw [World.size_alloc] at N2
  have hkd : hk v x.kind x.a x.b = decide (v.kind = x.kind ∧ v.a = x.a ∧ v.b = x.b) := rfl
  rw [hkd] at HK
  clear hkd
  unfold meet
  go_enter Try.func40, Try.ntmps40
  go_wp2_with (go_at_call 47; with_reducible refine (HK.out _).mono ?_; rintro e w2 ⟨rfl, hB2⟩; have k3 := (N1.call hB2).c3; have k4 := (N1.call hB2).c4; have j3 := (N2.call hB2).c3; have j4 := (N2.call hB2).c4)
  all_goals
    go_ret
    exact ⟨by first | rfl | (refine ret_b ?_; first | (simp only [decide_eq_true_eq, decide_eq_false_iff_not, Bool.not_true, Bool.not_false, Bool.true_eq_false, Bool.false_eq_true, true_iff, false_iff, iff_true, iff_false, Bool.and_eq_true, Bool.or_eq_true, Bool.not_eq_true', Bool.or_eq_false_iff, Bool.and_eq_false_imp, Bool.not_eq_eq_eq_not, reduceCtorEq, Bool.not_eq_true, beq_iff_eq, bne_iff_ne, ne_eq, Bool.not_eq_false, beq_eq_false_iff_ne, bne_eq_false_iff_eq, Bool.false_or, Bool.true_and, Bool.or_false, Bool.and_true]; omega) | (simp only [decide_eq_true_eq, decide_eq_false_iff_not, Bool.not_true, Bool.not_false, Bool.true_eq_false, Bool.false_eq_true, true_iff, false_iff, iff_true, iff_false, Bool.and_eq_true, Bool.or_eq_true, Bool.not_eq_true', Bool.or_eq_false_iff, Bool.and_eq_false_imp, Bool.not_eq_eq_eq_not, reduceCtorEq, Bool.not_eq_true, beq_iff_eq, bne_iff_ne, ne_eq, Bool.not_eq_false, beq_eq_false_iff_ne, bne_eq_false_iff_eq, Bool.false_or, Bool.true_and, Bool.or_false, Bool.and_true] at *; first | done | omega) | omega), by first | exact belTT _ _ hB2⟩
set_option maxHeartbeats 2000000 in
theorem plink_any (x : Wn) (w : World) : Calls Try.prog 86 #[x.v] w fun e w' => e = .returned (.bool (decide (lk x = true ∧ fm x = true))) ∧ Below w.heap.size w w' := by
  have HS := Lib.hid (fun W => pmal_any x W)
  obtain ⟨k, a, b, f, u, r⟩ := x
  by_cases h1 : k = 1
  · subst h1
    have e : decide (lk (⟨1, a, b, f, u, r⟩ : Wn) = true ∧ fm (⟨1, a, b, f, u, r⟩ : Wn) = true) = fm (⟨1, a, b, f, u, r⟩ : Wn) := by simp [lk]
    rw [e]
    generalize fm (⟨1, a, b, f, u, r⟩ : Wn) = s at *
    clear e
    go_enter Try.func86, Try.ntmps86
    go_wp2_with (go_at_call 34; with_reducible refine (HS.out _).mono ?_; rintro e w2 ⟨rfl, hB2⟩)
    go_ret
    exact ⟨by first | rfl | simp, by first | exact bel1 w _ | exact belT _ hB2⟩
  · by_cases h2 : k = 2
    · subst h2
      have e : decide (lk (⟨2, a, b, f, u, r⟩ : Wn) = true ∧ fm (⟨2, a, b, f, u, r⟩ : Wn) = true) = fm (⟨2, a, b, f, u, r⟩ : Wn) := by simp [lk]
      rw [e]
      generalize fm (⟨2, a, b, f, u, r⟩ : Wn) = s at *
      clear e
      go_enter Try.func86, Try.ntmps86
      go_wp2_with (go_at_call 34; with_reducible refine (HS.out _).mono ?_; rintro e w2 ⟨rfl, hB2⟩)
      go_ret
      exact ⟨by first | rfl | simp, by first | exact bel1 w _ | exact belT _ hB2⟩
    · have e : decide (lk (⟨k, a, b, f, u, r⟩ : Wn) = true ∧ fm (⟨k, a, b, f, u, r⟩ : Wn) = true) = false := by simp [lk, h1, h2]
      rw [e]
      generalize fm (⟨k, a, b, f, u, r⟩ : Wn) = s at *
      clear e
      go_enter Try.func86, Try.ntmps86
      go_wp2_with (go_at_call 34; with_reducible refine (HS.out _).mono ?_; rintro e w2 ⟨rfl, hB2⟩)
      go_ret
      exact ⟨by first | rfl | simp, by first | exact bel1 w _ | exact belT _ hB2⟩
set_option maxHeartbeats 2000000 in
theorem pfar_any (x : Wn) (w : World) (hb : -1000 ≤ x.b ∧ x.b ≤ 1000) : Calls Try.prog 87 #[x.v] w fun e w' => e = .returned (.int .i64 (far x)) ∧ Below w.heap.size w w' := by
  obtain ⟨k, a, b, f, u, r⟩ := x
  dsimp only at hb
  by_cases h1 : k = 1
  · subst h1
    have e : far (⟨1, a, b, f, u, r⟩ : Wn) = 12 + b := by simp [far]
    rw [e]
    clear e
    go_enter Try.func87, Try.ntmps87
    go_wp2_with fail
    go_ret
    exact ⟨rfl, bel1 w _⟩
  · have e : far (⟨k, a, b, f, u, r⟩ : Wn) = b := by simp [far, h1]
    rw [e]
    clear e
    go_enter Try.func87, Try.ntmps87
    go_wp2_with fail
    go_ret
    exact ⟨rfl, bel1 w _⟩
set_option maxHeartbeats 2000000 in
theorem rends_any (x : Wn) (w : World) (hb : -1000 ≤ x.b ∧ x.b ≤ 1000) : Calls Try.prog 69 #[x.v] w fun e w' => e = .returned (.tuple #[.int .i64 x.a, .int .i64 (far x), .bool (lk x)]) ∧ Below w.heap.size w w' := by
  obtain ⟨k, a, b, f, u, r⟩ := x
  dsimp only at hb
  by_cases h1 : k = 1
  · subst h1
    have e : far (⟨1, a, b, f, u, r⟩ : Wn) = 12 + b := by simp [far]
    have e2 : lk (⟨1, a, b, f, u, r⟩ : Wn) = true := by simp [lk]
    rw [e, e2]
    clear e e2
    go_enter Try.func69, Try.ntmps69
    go_wp2_with fail
    go_region
    all_goals go_wp2_with fail
    all_goals refine bodyPost_ret (v := .tuple #[.int .i64 a, .int .i64 (12 + b), .bool true]) (by simp [results, Try.results69, go_sem, *]) rfl ?_
    all_goals exact ⟨rfl, (bel1 w _).drew⟩
  · have e : far (⟨k, a, b, f, u, r⟩ : Wn) = b := by simp [far, h1]
    by_cases h2 : k = 2
    · subst h2
      have e2 : lk (⟨2, a, b, f, u, r⟩ : Wn) = true := by simp [lk]
      rw [e, e2]
      clear e e2
      go_enter Try.func69, Try.ntmps69
      go_wp2_with fail
      go_region
      all_goals go_wp2_with fail
      all_goals refine bodyPost_ret (v := .tuple #[.int .i64 a, .int .i64 b, .bool true]) (by simp [results, Try.results69, go_sem, *]) rfl ?_
      all_goals exact ⟨rfl, (bel1 w _).drew⟩
    · have e2 : lk (⟨k, a, b, f, u, r⟩ : Wn) = false := by simp [lk, h1, h2]
      rw [e, e2]
      clear e e2
      go_enter Try.func69, Try.ntmps69
      go_wp2_with fail
      go_region
      all_goals go_wp2_with fail
      all_goals refine bodyPost_ret (v := .tuple #[.int .i64 a, .int .i64 b, .bool false]) (by simp [results, Try.results69, go_sem, *]) rfl ?_
      all_goals exact ⟨rfl, (bel1 w _).drew⟩
end Q
end Go.Proofs.Ytojflmejkigdiaa
