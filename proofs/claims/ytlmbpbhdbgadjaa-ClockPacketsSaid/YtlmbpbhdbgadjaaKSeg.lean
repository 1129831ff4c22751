/-
  The segment of a tick; the offset of a segment; civil times.
-/
import Derived.Test.YtlmbpbhdbgadjaaKSrch
import Derived.Test.YtlmbpbhdbgadjaaKTab
namespace Go.Proofs.Ytlmbpbhdbgadjaa
open Go.RowKit
namespace K
open H
set_option linter.unusedVariables false
set_option maxRecDepth 100000
theorem off_zero (t : List Lp) : off t 0 = 0 := rfl
theorem off_succ {t : List Lp} {i : Nat} {x : Lp} (h : t[i]? = some x) : off t (i + 1) = x.off := by
  show (match t[i]? with | some x => x.off | none => 0) = _
  rw [h]
theorem off_none {t : List Lp} {i : Nat} (h : t[i]? = none) : off t (i + 1) = 0 := by
  show (match t[i]? with | some x => x.off | none => 0) = _
  rw [h]
theorem off_bd {t : List Lp} (hs : Sorted t) (i : Nat) : -100 ≤ off t i ∧ off t i ≤ 100 := by
  cases i with
  | zero => rw [off_zero]; omega
  | succ i =>
    cases h : t[i]? with
    | none => rw [off_none h]; omega
    | some x => have := hs.rng x (List.mem_of_getElem? h); rw [off_succ h]; omega
set_option maxHeartbeats 1000000 in
theorem closure_any (W : World) (B bt bn cap : Nat) (A : Option Addr) (t : List Lp) (n : Int) (i : Nat) (x : Lp) (hx : t[i]? = some x) (hct : W.cell? ⟨bt, 0, none⟩ = some (.slice A t.length cap)) (hcn : W.cell? ⟨bn, 0, none⟩ = some (.int .i64 n)) (ht : RdsLp W B A t) :
    Calls Try.prog 61 #[.int .i64 i, .pointer (some ⟨bt, 0, none⟩), .pointer (some ⟨bn, 0, none⟩)] W fun e w' => e = .returned (.bool (decide (n < x.pos))) ∧ Below W.heap.size W w' := by
  obtain ⟨ad, rfl, _, hr⟩ := ht i x hx
  have c0 := hr.c0
  have hi := (List.getElem?_eq_some_iff.1 hx).1
  generalize t.length = l at *
  have hz : (i : Int) < (l : Int) := by omega
  clear hr ht hx
  go_enter Try.func61, Try.ntmps61
  go_wp2_with fail
  go_region
  all_goals go_wp2_with fail
  all_goals go_ret
  all_goals exact ⟨rfl, (Below.refl _ W).drew⟩
set_option maxHeartbeats 1000000 in
theorem segment_any (t : List Lp) (n : Int) (A : Option Addr) (cap B : Nat) (w : World) (hB : B ≤ w.heap.size) (ht : RdsLp w B A t) (hl : t.length < 1000000) (hs : ∀ (i j : Nat) (x y : Lp), t[i]? = some x → t[j]? = some y → i < j → x.pos < y.pos) :
    Calls Try.prog 53 #[.slice A t.length cap, .int .i64 n] w fun e w' => e = .returned (.int .i64 (seg t n : Nat)) ∧ Below w.heap.size w w' := by
  obtain ⟨s0, s1⟩ := seg_at hs n
  have hle := seg_le t n
  obtain ⟨W0, hW0⟩ : ∃ W0, W0 = (w.alloc (.cells #[.slice A t.length cap] 43)).alloc (.cells #[.int .i64 n] 3) := ⟨_, rfl⟩
  have hsz : W0.heap.size = w.heap.size + 1 + 1 := by rw [hW0]; simp
  have hB0 : Below w.heap.size w W0 := by rw [hW0]; exact ((Below.refl _ w).alloc (Nat.le_refl _) _).alloc (by simp) _
  have ca : W0.cell? ⟨w.heap.size, 0, none⟩ = some (.slice A t.length cap) := by rw [hW0]; exact cell_under _ ((cell_at rfl).trans rfl)
  have cn : W0.cell? ⟨w.heap.size + 1, 0, none⟩ = some (.int .i64 n) := by rw [hW0]; exact (cell_at (by simp)).trans rfl
  have hS := search_any 61 #[.pointer (some ⟨w.heap.size, 0, none⟩), .pointer (some ⟨w.heap.size + 1, 0, none⟩)] t.length (seg t n) (fun i => match t[i]? with | some x => decide (n < x.pos) | none => true) W0 (enters_of Try.func61 (by kernel_rfl) rfl) (by omega)
    (fun W hW i hi => by
      obtain ⟨x, hx⟩ : ∃ x, t[i]? = some x := ⟨t[i], List.getElem?_eq_getElem hi⟩
      have h := closure_any W B w.heap.size (w.heap.size + 1) cap A t n i x hx (below_cell hW ca) (below_cell hW cn) ((ht.below (hB0.mono hB)).below (hW.mono (by omega)))
      simp only [hx]
      exact h)
    hle (fun i hi => by
      cases hx : t[i]? with
      | none => have := List.getElem?_eq_none_iff.1 hx; omega
      | some x => have := s0 i x hx hi; simp only [decide_eq_false_iff_not]; omega)
    (fun i h1 h2 => by
      cases hx : t[i]? with
      | none => rfl
      | some x => have := s1 i x hx h1; simp only [decide_eq_true_eq]; omega)
  have HS := Lib.hid hS
  have HB0 := Lib.hid hB0
  clear hS hs s0 s1 ht hB hB0 ca cn hle
  generalize seg t n = k at *
  generalize t.length = l at *
  go_enter Try.func53, Try.ntmps53
  go_wp2_with (go_at_call 60; rw [← hW0]; refine HS.out.mono ?_; rintro e w2 ⟨rfl, hB2⟩; have HB2 := Lib.hid hB2; clear hB2)
  go_ret
  exact ⟨rfl, HB0.out.trans (HB2.out.mono (by omega))⟩
set_option maxHeartbeats 1000000 in
theorem offset_any (t : List Lp) (i : Nat) (A : Option Addr) (cap B : Nat) (w : World) (ht : RdsLp w B A t) (hl : t.length < 1000000) (hi : i ≤ t.length) :
    Calls Try.prog 52 #[.slice A t.length cap, .int .i64 (i : Nat)] w fun e w' => e = .returned (.int .i64 (off t i)) ∧ w' = w := by
  cases i with
  | zero =>
    rw [off_zero]
    clear ht hi
    generalize t.length = l at *
    go_enter Try.func52, Try.ntmps52
    go_wp2_with fail
    go_ret
    exact ⟨rfl, rfl⟩
  | succ i =>
    obtain ⟨x, hx⟩ : ∃ x, t[i]? = some x := ⟨t[i], List.getElem?_eq_getElem (by omega)⟩
    rw [off_succ hx]
    obtain ⟨ad, rfl, _, hr⟩ := ht i x hx
    have c1 := hr.c1
    clear hr ht hx
    generalize t.length = l at *
    have hz : ((i + 1 : Nat) : Int) - 1 = (i : Int) := by omega
    have hnz : ¬ (((i + 1 : Nat) : Int) = 0) := by omega
    have hz2 : (i : Int) < (l : Int) := by omega
    go_enter Try.func52, Try.ntmps52
    go_wp2_with fail
    go_ret
    exact ⟨rfl, rfl⟩
set_option maxHeartbeats 1000000 in
theorem civil_any (t : List Lp) (n : Int) (A : Option Addr) (cap B : Nat) (w : World) (hB : B ≤ w.heap.size) (ht : RdsLp w B A t) (hl : t.length < 1000000) (hs : Sorted t) (hn : 0 ≤ n ∧ n ≤ 1000000) :
    Calls Try.prog 29 #[.slice A t.length cap, .int .i64 n] w fun e w' => e = .returned (.int .i64 (civ t n)) ∧ Below w.heap.size w w' := by
  have HS := Lib.hid (segment_any t n A cap B w hB ht hl hs.up)
  have HO : Hid (∀ W, Below w.heap.size w W → Calls Try.prog 52 #[.slice A t.length cap, .int .i64 (seg t n : Nat)] W fun e w' => e = .returned (.int .i64 (off t (seg t n))) ∧ w' = W) :=
    Lib.hid (fun W hW => offset_any t (seg t n) A cap B W (ht.below (hW.mono hB)) hl (seg_le t n))
  have ho := off_bd hs (seg t n)
  have hc : civ t n = n + off t (seg t n) := rfl
  rw [hc]
  clear hc hs ht hB
  generalize off t (seg t n) = o at *
  generalize seg t n = k at *
  generalize t.length = l at *
  have hw : IntKind.i64.wrap (n + o) = n + o := IntWalk.i64_in _ (by omega)
  go_enter Try.func29, Try.ntmps29
  go_wp2_with (first | (go_at_call 53; refine HS.out.mono ?_; rintro e w2 ⟨rfl, hB2⟩; have HB2 := Lib.hid hB2; clear hB2) | (go_at_call 52; refine (HO.out _ HB2.out).mono ?_; rintro e w3 ⟨rfl, rfl⟩))
  go_ret
  exact ⟨rfl, HB2.out⟩
end K
end Go.Proofs.Ytlmbpbhdbgadjaa
