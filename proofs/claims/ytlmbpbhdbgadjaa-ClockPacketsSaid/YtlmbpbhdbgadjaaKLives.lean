/-
  The examples of the chapter.
-/
import Derived.Test.YtlmbpbhdbgadjaaKRef
import Derived.Test.YtlmbpbhdbgadjaaKRef4
import Derived.Test.YtlmbpbhdbgadjaaKRef5
namespace Go.Proofs.Ytlmbpbhdbgadjaa
open Go.RowKit
namespace K
open H
set_option linter.unusedVariables false
set_option maxRecDepth 100000
def tbl : List Lp := [⟨100, 2⟩, ⟨200, 1⟩]
theorem tbl_sorted : Sorted tbl := by
  refine ⟨fun i j x y hx hy hij => ?_, fun x hx => ?_⟩
  · match i, j, hx, hy with
    | 0, 1, hx, hy => obtain rfl := Option.some.inj hx; obtain rfl := Option.some.inj hy; decide
    | 0, 0, _, _ => omega
    | 1, 0, _, _ => omega
    | 1, 1, _, _ => omega
    | i + 2, _, hx, _ => simp [tbl] at hx
    | 0, j + 2, _, hy => simp [tbl] at hy
    | 1, j + 2, _, hy => simp [tbl] at hy
  · simp [tbl] at hx
    rcases hx with rfl | rfl <;> decide
theorem tbl_rds (w : World) (T : TypeId) : RdsLp (w.alloc (.cells #[.int .i64 100, .int .i64 2, .int .i64 200, .int .i64 1] T)) (w.heap.size + 1) (some ⟨w.heap.size, 0, none⟩) tbl := by
  intro j x hx
  match j, hx with
  | 0, hx =>
    obtain rfl := Option.some.inj hx
    refine ⟨_, rfl, Nat.lt_succ_self _, ⟨?_, ?_⟩⟩
    · rw [ad_add]; exact cell_top _ _ _ _
    · rw [ad_add]; exact cell_top _ _ _ _
  | 1, hx =>
    obtain rfl := Option.some.inj hx
    refine ⟨_, rfl, Nat.lt_succ_self _, ⟨?_, ?_⟩⟩
    · rw [ad_add]; exact cell_top _ _ _ _
    · rw [ad_add]; exact cell_top _ _ _ _
  | j + 2, hx => simp [tbl] at hx
theorem rd_alloc {w : World} {A : Option Addr} {zs : List Int} (h : RdI w w.heap.size .i64 A zs) (o : Obj) : RdI (w.alloc o) (w.alloc o).heap.size .i64 A zs :=
  (h.below ((Below.refl _ _).alloc (Nat.le_refl _) o)).more (by simp)
theorem ret_val {v v' : Value} (h : v = v') : Ending.returned v = Ending.returned v' := by rw [h]
/-- What lives holds: the table in its block, all blocks of the caller's kept. -/
structure Lvs (w : World) (W : World) : Prop where
  tab : RdsLp W (w.heap.size + 1) (some ⟨w.heap.size, 0, none⟩) tbl
  lt : w.heap.size + 1 ≤ W.heap.size
  bel : Below w.heap.size w W
theorem Lvs.call {w W V : World} (h : Lvs w W) (hB : Below W.heap.size W V) : Lvs w V :=
  ⟨h.tab.below (hB.mono h.lt), Nat.le_trans h.lt hB.size, h.bel.trans (hB.mono (by have := h.lt; omega))⟩
theorem Lvs.alloc {w W : World} (h : Lvs w W) (o : Obj) : Lvs w (W.alloc o) := h.call ((Below.refl _ _).alloc (Nat.le_refl _) _)
theorem Lvs.drew {w W : World} (h : Lvs w W) : Lvs w W.drew := h.call (Below.refl _ _).drew
theorem Lvs.start (w : World) (T : TypeId) : Lvs w (w.alloc (.cells #[.int .i64 100, .int .i64 2, .int .i64 200, .int .i64 1] T)) :=
  ⟨tbl_rds w T, by simp, (Below.refl _ w).alloc (Nat.le_refl _) _⟩
set_option maxHeartbeats 4000000 in
theorem lives_any (w : World) : Calls Try.prog 19 #[] w fun e w' => e = .returned (.bool true) ∧ Below w.heap.size w w' := by
  have H1 : Hid (∀ W, Calls Try.prog 21 #[iv 0 100, sm 3 8 40, .int .i64 10, .int .i64 5] W fun e w' => e = .returned (.tuple #[iv 41 49, .int .i64 0]) ∧ Below W.heap.size W w') :=
    Lib.hid (fun W => by have h := correlate_any 0 100 3 8 40 10 5 W (by omega) (by omega) (by omega); rwa [show cor 0 100 3 8 40 10 5 = (41, 49, 0) by decide +kernel] at h)
  have H2 : Hid (∀ W, Calls Try.prog 21 #[iv 0 100, sm 3 8 300, .int .i64 8, .int .i64 5] W fun e w' => e = .returned (.tuple #[iv 0 0, .int .i64 22]) ∧ Below W.heap.size W w') :=
    Lib.hid (fun W => by have h := correlate_any 0 100 3 8 300 8 5 W (by omega) (by omega) (by omega); rwa [show cor 0 100 3 8 300 8 5 = (0, 0, 22) by decide +kernel] at h)
  have H3 : Hid (∀ W, Calls Try.prog 15 #[iv 10 20, .int .i64 7, .int .i64 5] W fun e w' => e = .returned (iv 15 29) ∧ Below W.heap.size W w') :=
    Lib.hid (fun W => by have h := advance_any 10 20 7 5 W (by omega) (by omega) (by omega) (by omega) (by omega) (by omega); rwa [show alo 10 7 5 = 15 by decide +kernel, show ahi 20 7 5 = 29 by decide +kernel] at h)
  have H4 : Hid (∀ W, Calls Try.prog 24 #[.int .i64 65530, .int .i64 3] W fun e w' => e = .returned (.int .i64 65539) ∧ w' = W) :=
    Lib.hid (fun W => by have h := unwrap_any 65530 3 W (by omega) (by omega) (by omega) (by omega); rwa [show unw 65530 3 = 65539 by decide +kernel] at h)
  have H5 : Hid (∀ W, Calls Try.prog 26 #[iv 5 9, .int .i64 6, .int .i64 10] W fun e w' => e = .returned (.int .i64 (-1)) ∧ Below W.heap.size W w') :=
    Lib.hid (fun W => by have h := judge_any 5 9 6 10 W; rwa [show jud 5 9 6 10 = -1 by decide +kernel] at h)
  have H6 : Hid (∀ W, Calls Try.prog 26 #[iv 5 9, .int .i64 6, .int .i64 9] W fun e w' => e = .returned (.int .i64 1) ∧ Below W.heap.size W w') :=
    Lib.hid (fun W => by have h := judge_any 5 9 6 9 W; rwa [show jud 5 9 6 9 = 1 by decide +kernel] at h)
  have H7 : Hid (∀ W, Lvs w W → Calls Try.prog 29 #[.slice (some ⟨w.heap.size, 0, none⟩) 2 2, .int .i64 100] W fun e w' => e = .returned (.int .i64 102) ∧ Below W.heap.size W w') :=
    Lib.hid (fun W hW => by have h := civil_any tbl 100 (some ⟨w.heap.size, 0, none⟩) 2 _ W hW.lt hW.tab (by decide) tbl_sorted (by omega); rwa [show civ tbl 100 = 102 by decide +kernel] at h)
  have H8 : Hid (∀ W, Lvs w W → Calls Try.prog 30 #[.slice (some ⟨w.heap.size, 0, none⟩) 2 2, .int .i64 201] W fun e w' => ∃ A c, e = .returned (.slice A 2 c) ∧ RdI w' w'.heap.size .i64 A [199, 200] ∧ Below W.heap.size W w') :=
    Lib.hid (fun W hW => by
      have h := ticks_any tbl 201 (some ⟨w.heap.size, 0, none⟩) 2 _ W hW.lt hW.tab (by decide) tbl_sorted ⟨by omega, by omega⟩
      rw [show tks tbl 201 (tbl.length + 1) = [199, 200] by decide +kernel] at h
      refine h.mono ?_
      rintro e w' ⟨v, rfl, ho, hB⟩
      obtain ⟨A, c, hv⟩ := own_shape ho
      subst hv
      exact ⟨A, c, rfl, own_RdI ho, hB⟩)
  have H9 : Hid (∀ W, Lvs w W → Calls Try.prog 35 #[.slice (some ⟨w.heap.size, 0, none⟩) 2 2] W fun e w' => e = .returned (.int .i64 0) ∧ Below W.heap.size W w') :=
    Lib.hid (fun W hW => by have h := check_any tbl (some ⟨w.heap.size, 0, none⟩) 2 _ W hW.lt hW.tab (by decide); rwa [show chk tbl = 0 by decide +kernel] at h)
  have H10 : Hid (∀ W A A' c c', RdI W W.heap.size .i64 A [199, 200] → RdI W W.heap.size .i64 A' [199, 200] → Calls Try.prog 32 #[.slice A 2 c, .slice A' 2 c'] W fun e w' => e = .returned (.bool true) ∧ Below W.heap.size W w') :=
    Lib.hid (fun W A A' c c' h1 h2 => by have h := sameI_any A A' c c' [199, 200] [199, 200] W (by decide) (by decide) h1 h2; simpa using h)
  have N0 := Lvs.start w 69
  go_enter Try.func19, Try.ntmps19
  go_wp2_with (first
    | (go_at_call 21; with_reducible refine (H1.out _).mono ?_; rintro e w1 ⟨rfl, hB1⟩; have N1 := N0.call hB1; clear hB1)
    | (go_at_call 21; with_reducible refine (H2.out _).mono ?_; rintro e w2 ⟨rfl, hB2⟩; have N2 := (N1.alloc _).call hB2; have q0 := below_cell (a := ⟨w1.heap.size, 0, none⟩) hB2 (cell_top w1 _ _ _); have q1 := below_cell (a := ⟨w1.heap.size, 1, none⟩) hB2 (cell_top w1 _ _ _); clear hB2)
    | (go_at_call 15; refine (H3.out _).mono ?_; rintro e w3 ⟨rfl, hB3⟩; have N3 := (N2.alloc _).call hB3; have p0 := below_cell hB3 (cell_under _ q0); have p1 := below_cell hB3 (cell_under _ q1); clear hB3)
    | (go_at_call 24; refine (H4.out _).mono ?_; rintro e w4 ⟨rfl, rfl⟩)
    | (go_at_call 26; with_reducible refine (H5.out _).mono ?_; rintro e w5 ⟨rfl, hB5⟩; have N5 := N3.call hB5; clear hB5)
    | (go_at_call 26; with_reducible refine (H6.out _).mono ?_; rintro e w6 ⟨rfl, hB6⟩; have N6 := N5.call hB6; clear hB6)
    | (go_at_call 29; refine (H7.out _ N6).mono ?_; rintro e w7 ⟨rfl, hB7⟩; have N7 := N6.call hB7; clear hB7)
    | (go_at_call 30; refine (H8.out _ N7).mono ?_; rintro e w8 ⟨A8, c8, rfl, hR8, hB8⟩; have N8 := N7.call hB8; clear hB8)
    | (go_at_call 32; refine (H10.out _ _ _ _ _ (rd_alloc hR8 _) (RdI_lit w8 .i64 _ _ [199, 200] rfl)).mono ?_; rintro e w9 ⟨rfl, hB9⟩; have N9 := (N8.alloc _).call hB9; clear hB9)
    | (go_at_call 35; refine (H9.out _ N9).mono ?_; rintro e w10 ⟨rfl, hB10⟩; have N10 := N9.call hB10; clear hB10))
  go_ret
  exact ⟨rfl, N10.bel⟩
end K
end Go.Proofs.Ytlmbpbhdbgadjaa
