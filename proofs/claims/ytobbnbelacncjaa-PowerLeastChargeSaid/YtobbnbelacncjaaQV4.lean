/-
  The closures of the queries; compare.
-/
import Derived.Test.YtobbnbelacncjaaQV3
namespace Go.Proofs.Ytobbnbelacncjaa
open Go.RowKit
namespace Q
open H
set_option linter.unusedVariables false
set_option linter.unusedSimpArgs false
set_option maxRecDepth 100000
/-- A box of one number. -/
def Ib (W : World) (b : Nat) (n : Int) : Prop := W.cell? ⟨b, 0, none⟩ = some (.int .i64 n)
theorem Ib.call {W V : World} {b : Nat} {n : Int} (h : Ib W b n) (hB : Below W.heap.size W V) : Ib V b n := below_cell hB h
abbrev bp (b : Nat) : Value := .pointer (some ⟨b, 0, none⟩)
set_option maxHeartbeats 2000000 in
theorem cAt_any (x : Wn) (k a b t : Int) (bk ba bb bt' : Nat) (w : World) (hk' : Ib w bk k) (ha : Ib w ba a) (hb : Ib w bb b) (ht : Ib w bt' t) :
    Calls Try.prog 64 #[x.v, bp bk, bp ba, bp bb, bp bt'] w fun e w' => e = .returned (.bool (hk x k a b && op x t)) ∧ Below w.heap.size w w' := by
  have HK := Lib.hid (fun W => pkey_any x k a b W)
  have HO := Lib.hid (fun W => popen_any x t W)
  have N0 := Bx.new w x 77
  have i1 := hk'.call (bel1 w (.cells #[.int .i64 x.kind, .int .i64 x.a, .int .i64 x.b, .int .i64 x.fr, .int .i64 x.un, .int .i64 x.rate] 77))
  have i2 := ha.call (bel1 w (.cells #[.int .i64 x.kind, .int .i64 x.a, .int .i64 x.b, .int .i64 x.fr, .int .i64 x.un, .int .i64 x.rate] 77))
  have i3 := hb.call (bel1 w (.cells #[.int .i64 x.kind, .int .i64 x.a, .int .i64 x.b, .int .i64 x.fr, .int .i64 x.un, .int .i64 x.rate] 77))
  have i4 := ht.call (bel1 w (.cells #[.int .i64 x.kind, .int .i64 x.a, .int .i64 x.b, .int .i64 x.fr, .int .i64 x.un, .int .i64 x.rate] 77))
  clear hk' ha hb ht
  generalize hk x k a b = r at *
  generalize op x t = s at *
  cases r with
  | true =>
    rw [Bool.true_and]
    go_enter Try.func64, Try.ntmps64
    unfold Ib at i1 i2 i3
    go_wp2_with (first
      | (go_at_call 48; with_reducible refine (HK.out _).mono ?_; rintro e w2 ⟨rfl, hB2⟩; have N1 := N0.call hB2; have j4 := i4.call hB2; unfold Ib at j4; have n0 := N1.c0; have n1 := N1.c1; have n2 := N1.c2; have n3 := N1.c3; have n4 := N1.c4; have n5 := N1.c5)
      | (go_at_call 65; with_reducible refine (HO.out _).mono ?_; rintro e w3 ⟨rfl, hB3⟩))
    all_goals go_ret
    all_goals exact ⟨rfl, belT _ (bt hB2 hB3)⟩
  | false =>
    rw [Bool.false_and]
    go_enter Try.func64, Try.ntmps64
    unfold Ib at i1 i2 i3
    go_wp2_with (go_at_call 48; with_reducible refine (HK.out _).mono ?_; rintro e w2 ⟨rfl, hB2⟩)
    all_goals go_ret
    all_goals exact ⟨rfl, belT _ hB2⟩
set_option maxHeartbeats 2000000 in
theorem cTicks_any (x : Wn) (k a b : Int) (bk ba bb : Nat) (w : World) (hk' : Ib w bk k) (ha : Ib w ba a) (hb : Ib w bb b) :
    Calls Try.prog 47 #[x.v, bp bk, bp ba, bp bb] w fun e w' => e = .returned (.bool (hk x k a b)) ∧ Below w.heap.size w w' := by
  have HK := Lib.hid (fun W => pkey_any x k a b W)
  have i1 := hk'.call (bel1 w (.cells #[.int .i64 x.kind, .int .i64 x.a, .int .i64 x.b, .int .i64 x.fr, .int .i64 x.un, .int .i64 x.rate] 77))
  have i2 := ha.call (bel1 w (.cells #[.int .i64 x.kind, .int .i64 x.a, .int .i64 x.b, .int .i64 x.fr, .int .i64 x.un, .int .i64 x.rate] 77))
  have i3 := hb.call (bel1 w (.cells #[.int .i64 x.kind, .int .i64 x.a, .int .i64 x.b, .int .i64 x.fr, .int .i64 x.un, .int .i64 x.rate] 77))
  clear hk' ha hb
  generalize hk x k a b = r at *
  go_enter Try.func47, Try.ntmps47
  unfold Ib at i1 i2 i3
  go_wp2_with (go_at_call 48; with_reducible refine (HK.out _).mono ?_; rintro e w2 ⟨rfl, hB2⟩)
  all_goals go_ret
  all_goals exact ⟨rfl, belT _ hB2⟩
end Q
end Go.Proofs.Ytobbnbelacncjaa
