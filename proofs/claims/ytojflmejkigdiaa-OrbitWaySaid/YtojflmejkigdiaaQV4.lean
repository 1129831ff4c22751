/-
  The closures of the queries; compare.
-/
import Derived.Test.YtojflmejkigdiaaQV3
namespace Go.Proofs.Ytojflmejkigdiaa
open Go.RowKit
namespace Q
open H
set_option linter.unusedVariables false
set_option linter.unusedSimpArgs false
set_option maxRecDepth 100000
/-- A box of one number. -/
def Ib (W : World) (b : Nat) (n : Int) : Prop := W.cell? ⟨b, 0, none⟩ = some (.int .i64 n)
theorem Ib.call {W V : World} {b : Nat} {n : Int} (h : Ib W b n) (hB : Below W.heap.size W V) : Ib V b n := below_cell hB h
abbrev bp (b : Nat) : Value := .pointer (some ⟨b, 0, none⟩)
set_option maxHeartbeats 2000000 in
theorem cAt_any (x : Wn) (k a b t : Int) (bk ba bb bt' : Nat) (w : World) (hk' : Ib w bk k) (ha : Ib w ba a) (hb : Ib w bb b) (ht : Ib w bt' t) :
    Calls Try.prog 44 #[x.v, bp bk, bp ba, bp bb, bp bt'] w fun e w' => e = .returned (.bool (hk x k a b && op x t)) ∧ Below w.heap.size w w' := by
  have HK := Lib.hid (fun W => pkey_any x k a b W)
  have HO := Lib.hid (fun W => popen_any x t W)
  have N0 := Bx.new w x 31
  have i1 := hk'.call (bel1 w (.cells #[.int .i64 x.kind, .int .i64 x.a, .int .i64 x.b, .int .i64 x.fr, .int .i64 x.un, .int .i64 x.rate] 31))
  have i2 := ha.call (bel1 w (.cells #[.int .i64 x.kind, .int .i64 x.a, .int .i64 x.b, .int .i64 x.fr, .int .i64 x.un, .int .i64 x.rate] 31))
  have i3 := hb.call (bel1 w (.cells #[.int .i64 x.kind, .int .i64 x.a, .int .i64 x.b, .int .i64 x.fr, .int .i64 x.un, .int .i64 x.rate] 31))
  have i4 := ht.call (bel1 w (.cells #[.int .i64 x.kind, .int .i64 x.a, .int .i64 x.b, .int .i64 x.fr, .int .i64 x.un, .int .i64 x.rate] 31))
  clear hk' ha hb ht
  generalize hk x k a b = r at *
  generalize op x t = s at *
  cases r with
  | true =>
    rw [Bool.true_and]
    go_enter Try.func44, Try.ntmps44
    unfold Ib at i1 i2 i3
    go_wp2_with (first
      | (go_at_call 45; with_reducible refine (HK.out _).mono ?_; rintro e w2 ⟨rfl, hB2⟩; have N1 := N0.call hB2; have j4 := i4.call hB2; unfold Ib at j4; have n0 := N1.c0; have n1 := N1.c1; have n2 := N1.c2; have n3 := N1.c3; have n4 := N1.c4; have n5 := N1.c5)
      | (go_at_call 46; with_reducible refine (HO.out _).mono ?_; rintro e w3 ⟨rfl, hB3⟩))
    all_goals go_ret
    all_goals exact ⟨rfl, belT _ (bt hB2 hB3)⟩
  | false =>
    rw [Bool.false_and]
    go_enter Try.func44, Try.ntmps44
    unfold Ib at i1 i2 i3
    go_wp2_with (go_at_call 45; with_reducible refine (HK.out _).mono ?_; rintro e w2 ⟨rfl, hB2⟩)
    all_goals go_ret
    all_goals exact ⟨rfl, belT _ hB2⟩
set_option maxHeartbeats 2000000 in
theorem cTicks_any (x : Wn) (k a b : Int) (bk ba bb : Nat) (w : World) (hk' : Ib w bk k) (ha : Ib w ba a) (hb : Ib w bb b) :
    Calls Try.prog 49 #[x.v, bp bk, bp ba, bp bb] w fun e w' => e = .returned (.bool (hk x k a b)) ∧ Below w.heap.size w w' := by
  have HK := Lib.hid (fun W => pkey_any x k a b W)
  have i1 := hk'.call (bel1 w (.cells #[.int .i64 x.kind, .int .i64 x.a, .int .i64 x.b, .int .i64 x.fr, .int .i64 x.un, .int .i64 x.rate] 31))
  have i2 := ha.call (bel1 w (.cells #[.int .i64 x.kind, .int .i64 x.a, .int .i64 x.b, .int .i64 x.fr, .int .i64 x.un, .int .i64 x.rate] 31))
  have i3 := hb.call (bel1 w (.cells #[.int .i64 x.kind, .int .i64 x.a, .int .i64 x.b, .int .i64 x.fr, .int .i64 x.un, .int .i64 x.rate] 31))
  clear hk' ha hb
  generalize hk x k a b = r at *
  go_enter Try.func49, Try.ntmps49
  unfold Ib at i1 i2 i3
  go_wp2_with (go_at_call 45; with_reducible refine (HK.out _).mono ?_; rintro e w2 ⟨rfl, hB2⟩)
  all_goals go_ret
  all_goals exact ⟨rfl, belT _ hB2⟩
set_option maxHeartbeats 2000000 in
theorem cNext_any (x : Wn) (k a b t : Int) (bk ba bb bt' : Nat) (w : World) (hk' : Ib w bk k) (ha : Ib w ba a) (hb : Ib w bb b) (ht : Ib w bt' t) :
    Calls Try.prog 48 #[x.v, bp bk, bp ba, bp bb, bp bt'] w fun e w' => e = .returned (.bool (hk x k a b && decide (t < x.un))) ∧ Below w.heap.size w w' := by
  have HK := Lib.hid (fun W => pkey_any x k a b W)
  have N0 := Bx.new w x 31
  have i1 := hk'.call (bel1 w (.cells #[.int .i64 x.kind, .int .i64 x.a, .int .i64 x.b, .int .i64 x.fr, .int .i64 x.un, .int .i64 x.rate] 31))
  have i2 := ha.call (bel1 w (.cells #[.int .i64 x.kind, .int .i64 x.a, .int .i64 x.b, .int .i64 x.fr, .int .i64 x.un, .int .i64 x.rate] 31))
  have i3 := hb.call (bel1 w (.cells #[.int .i64 x.kind, .int .i64 x.a, .int .i64 x.b, .int .i64 x.fr, .int .i64 x.un, .int .i64 x.rate] 31))
  have i4 := ht.call (bel1 w (.cells #[.int .i64 x.kind, .int .i64 x.a, .int .i64 x.b, .int .i64 x.fr, .int .i64 x.un, .int .i64 x.rate] 31))
  clear hk' ha hb ht
  generalize hk x k a b = r at *
  cases r with
  | true =>
    rw [Bool.true_and]
    go_enter Try.func48, Try.ntmps48
    unfold Ib at i1 i2 i3
    go_wp2_with (first
      | (go_at_call 45; with_reducible refine (HK.out _).mono ?_; rintro e w2 ⟨rfl, hB2⟩; have N1 := N0.call hB2; have j4 := i4.call hB2; unfold Ib at j4; have n0 := N1.c0; have n1 := N1.c1; have n2 := N1.c2; have n3 := N1.c3; have n4 := N1.c4; have n5 := N1.c5))
    all_goals go_ret
    all_goals exact ⟨by first | rfl | (refine ret_b ?_; first | (simp only [decide_eq_true_eq, decide_eq_false_iff_not, Bool.not_true, Bool.not_false, Bool.true_eq_false, Bool.false_eq_true, true_iff, false_iff, iff_true, iff_false, Bool.and_eq_true, Bool.or_eq_true, Bool.not_eq_true', Bool.or_eq_false_iff, Bool.and_eq_false_imp, Bool.not_eq_eq_eq_not, reduceCtorEq, Bool.not_eq_true, beq_iff_eq, bne_iff_ne, ne_eq, Bool.not_eq_false, beq_eq_false_iff_ne, bne_eq_false_iff_eq, Bool.false_or, Bool.true_and, Bool.or_false, Bool.and_true]; omega) | (simp only [decide_eq_true_eq, decide_eq_false_iff_not, Bool.not_true, Bool.not_false, Bool.true_eq_false, Bool.false_eq_true, true_iff, false_iff, iff_true, iff_false, Bool.and_eq_true, Bool.or_eq_true, Bool.not_eq_true', Bool.or_eq_false_iff, Bool.and_eq_false_imp, Bool.not_eq_eq_eq_not, reduceCtorEq, Bool.not_eq_true, beq_iff_eq, bne_iff_ne, ne_eq, Bool.not_eq_false, beq_eq_false_iff_ne, bne_eq_false_iff_eq, Bool.false_or, Bool.true_and, Bool.or_false, Bool.and_true] at *; first | done | omega) | omega), belT _ hB2⟩
  | false =>
    rw [Bool.false_and]
    go_enter Try.func48, Try.ntmps48
    unfold Ib at i1 i2 i3
    go_wp2_with (go_at_call 45; with_reducible refine (HK.out _).mono ?_; rintro e w2 ⟨rfl, hB2⟩)
    all_goals go_ret
    all_goals exact ⟨rfl, belT _ hB2⟩
set_option maxHeartbeats 2000000 in
theorem cPlaces_any (x : Wn) (a t : Int) (ba bt' : Nat) (w : World) (ha : Ib w ba a) (ht : Ib w bt' t) :
    Calls Try.prog 50 #[x.v, bp ba, bp bt'] w fun e w' => e = .returned (.bool (decide (x.kind = 4 ∧ x.a = a) && op x t)) ∧ Below w.heap.size w w' := by
  have HO := Lib.hid (fun W => popen_any x t W)
  have i2 := ha.call (bel1 w (.cells #[.int .i64 x.kind, .int .i64 x.a, .int .i64 x.b, .int .i64 x.fr, .int .i64 x.un, .int .i64 x.rate] 31))
  have i4 := ht.call (bel1 w (.cells #[.int .i64 x.kind, .int .i64 x.a, .int .i64 x.b, .int .i64 x.fr, .int .i64 x.un, .int .i64 x.rate] 31))
  clear ha ht
  generalize op x t = s at *
  obtain ⟨xk, xa, xb, xf, xu, xr⟩ := x
  dsimp only at i2 i4 ⊢
  by_cases h1 : xk = 4
  · subst h1
    by_cases h2 : xa = a
    · subst h2
      rw [decide_eq_true ⟨rfl, rfl⟩, Bool.true_and]
      go_enter Try.func50, Try.ntmps50
      unfold Ib at i2 i4
      go_wp2_with (go_at_call 46; with_reducible refine (HO.out _).mono ?_; rintro e w3 ⟨rfl, hB3⟩)
      all_goals go_ret
      all_goals exact ⟨rfl, belT _ hB3⟩
    · rw [decide_eq_false (fun h => h2 h.2), Bool.false_and]
      go_enter Try.func50, Try.ntmps50
      unfold Ib at i2 i4
      go_wp2_with fail
      all_goals go_ret
      all_goals exact ⟨rfl, bel1 w _⟩
  · rw [decide_eq_false (fun h => h1 h.1), Bool.false_and]
    go_enter Try.func50, Try.ntmps50
    unfold Ib at i2 i4
    go_wp2_with fail
    all_goals go_ret
    all_goals exact ⟨rfl, bel1 w _⟩
end Q
end Go.Proofs.Ytojflmejkigdiaa
