/-
  Contracts of the specification of layer 7: Capacity, Used, Free, Error, SameRecord, Same.
-/
import Derived.Test.YtnoohhpajoaaoaaDoorRows
import Derived.Test.YtnoohhpajoaaoaaDoorRw
import Derived.Deep.DeepCutAuto
import Derived.Deep.RegionHeld3
import Derived.Deep.LoopGhost
import Derived.Deep.QuietTactic
import Derived.BigQuiet
import Derived.StillTailTactics
namespace Go.Proofs.YtnoohhpajoaaoaaDoor
open Go.RowKit
namespace J
open H R
set_option linter.unusedVariables false
set_option maxRecDepth 100000
/-! ### Mathematics -/
def usedL (rows : List (List Nat)) : Nat := (rows.map fun r => r.length + 1).sum
theorem usedL_nil : usedL [] = 0 := rfl
theorem usedL_snoc (rows : List (List Nat)) (r : List Nat) : usedL (rows ++ [r]) = usedL rows + (r.length + 1) := by simp [usedL]
theorem usedL_take (rows : List (List Nat)) {k : Nat} {r : List Nat} (h : rows[k]? = some r) : usedL (rows.take (k + 1)) = usedL (rows.take k) + (r.length + 1) := by
  rw [List.take_add_one, h]
  exact usedL_snoc _ _
theorem usedL_take_le (rows : List (List Nat)) (k : Nat) : usedL (rows.take k) ≤ usedL rows := by
  have h2 : usedL (rows.take k ++ rows.drop k) = usedL (rows.take k) + usedL (rows.drop k) := by unfold usedL; rw [List.map_append, List.sum_append]
  rw [List.take_append_drop] at h2
  omega
theorem len_le_used {rows : List (List Nat)} {k : Nat} {r : List Nat} (h : rows[k]? = some r) : r.length + 1 ≤ usedL rows := by
  have h1 := usedL_take rows h
  have h2 := usedL_take_le rows (k + 1)
  omega
theorem rows_le_used : ∀ rows : List (List Nat), rows.length ≤ usedL rows
  | [] => Nat.le_refl _
  | r :: rows => by
    have := rows_le_used rows
    simp [usedL] at this ⊢
    omega
def freeL (n : Nat) (rows : List (List Nat)) : Int := max (-1) (min 64 (((n / 2 : Nat) : Int) - 4 - usedL rows - 1))
def longL (rows : List (List Nat)) : Bool := rows.any fun r => decide (64 < r.length)
def errL (n : Nat) (rows : List (List Nat)) : Int := if longL rows = true then 2 else if ((n / 2 : Nat) : Int) - 4 < usedL rows then 9 else 0
theorem longL_no {rows : List (List Nat)} (h : ∀ (i : Nat) (r : List Nat), rows[i]? = some r → r.length ≤ 64) : longL rows = false := by
  unfold longL
  rw [List.any_eq_false]
  intro r hr
  obtain ⟨i, hi⟩ := List.mem_iff_getElem?.1 hr
  have := h i r hi
  simp; omega
theorem longL_yes {rows : List (List Nat)} {i : Nat} {r : List Nat} (h : rows[i]? = some r) (hr : 64 < r.length) : longL rows = true := by
  unfold longL
  rw [List.any_eq_true]
  exact ⟨r, List.mem_of_getElem? h, by simpa using hr⟩
theorem eq_of_takes {α : Type} {a b : List α} (hl : a.length = b.length) (h : ∀ k, k < a.length → a[k]? = b[k]?) : a = b := by
  apply List.ext_getElem?
  intro i
  by_cases hi : i < a.length
  · exact h i hi
  · rw [List.getElem?_eq_none (by omega), List.getElem?_eq_none (by omega)]
/-! ### Contracts -/
set_option maxHeartbeats 1000000 in
theorem rcap_any (n : Nat) (hn : n ≤ 1000000) (w : World) : Calls Tryd.prog 48 #[.int .i64 (n : Nat)] w fun r w' => r = .returned (.int .i64 (((n / 2 : Nat) : Int) - 4)) ∧ w' = w := by
  have hd : ((n : Int)).tdiv 2 = ((n / 2 : Nat) : Int) := by rw [Int.tdiv_eq_ediv_of_nonneg (by omega)]; push_cast; rfl
  have h2 : n / 2 ≤ 1000000 := by omega
  generalize n / 2 = q at *
  go_enter Tryd.func48, Tryd.ntmps48
  go_wp2_with fail
  go_ret
  exact ⟨rfl, rfl⟩
set_option maxHeartbeats 1000000 in
theorem rused_any {w : World} {G : Nat → Prop} {v : Value} {rows : List (List Nat)} (h : RR w G v rows) (hu : usedL rows ≤ 1000000) :
    Calls Tryd.prog 49 #[v] w fun r w' => r = .returned (.int .i64 (usedL rows : Nat)) ∧ w' = w := by
  obtain ⟨A, c, rfl⟩ := h.shape
  have HR := Lib.hid h
  have hrl := rows_le_used rows
  have hlen : rows.length ≤ 1000000 := by omega
  have HU := Lib.hid hu
  clear h hu hrl
  go_enter Tryd.func49, Tryd.ntmps49
  go_wp2_with fail
  go_loopg [3, 4] rows.length (fun g n i wr => ∃ k : Nat, k + g = rows.length ∧ n = .int .i64 (usedL (rows.take k) : Nat) ∧ i = .int .i64 (k : Nat) ∧ wr = w)
  case atStart => exact ⟨0, Nat.zero_add _, rfl, rfl, rfl⟩
  case round =>
    obtain ⟨k, hg, rfl, rfl, rfl⟩ := hrel
    have HG := Lib.hid hg
    clear hg
    by_cases hlt : k < rows.length
    · obtain ⟨xs, hxs⟩ : ∃ xs, rows[k]? = some xs := ⟨_, List.getElem?_eq_getElem hlt⟩
      obtain ⟨ad, B, d, rfl, hc, _⟩ := HR.out.get hxs
      have hs := usedL_take rows hxs
      have hle := usedL_take_le rows (k + 1)
      have HS := Lib.hid hs
      have hb : (usedL (rows.take k) : Int) + xs.length + 1 ≤ 1000000 := by have := HU.out; omega
      clear hs hle hxs
      generalize usedL (rows.take k) = q at *
      have hki : (k : Int) < (rows.length : Int) := by omega
      go_wp2_with fail
      go_roundg (gk - 1)
      case measure => have := HG.out; omega
      case rel => exact ⟨k + 1, by have := HG.out; omega, by rw [HS.out]; go_num, by go_num, rfl⟩
    · have hk : ¬ (k : Int) < (rows.length : Int) := by omega
      have hk2 : k = rows.length := by have := HG.out; omega
      have HE : Hid (usedL (rows.take k) = usedL rows) := Lib.hid (by rw [hk2, List.take_length])
      clear hlt hk2
      go_wp2_with fail
      go_ret
      exact ⟨by rw [HE.out]; rfl, rfl⟩
set_option maxHeartbeats 1000000 in
theorem rfree_any {w : World} {G : Nat → Prop} {v : Value} {rows : List (List Nat)} (n : Nat) (hn : n ≤ 1000000) (h : RR w G v rows) (hu : usedL rows ≤ 1000000) :
    Calls Tryd.prog 29 #[.int .i64 (n : Nat), v] w fun r w' => r = .returned (.int .i64 (freeL n rows)) ∧ w' = w := by
  have HC := Lib.hid (rcap_any n hn w)
  have HU := Lib.hid (rused_any h hu)
  obtain ⟨q, hq⟩ : ∃ q, n / 2 = q := ⟨_, rfl⟩
  have hq1 : q ≤ 1000000 := by omega
  have HF : Hid (freeL n rows = max (-1) (min 64 ((q : Int) - 4 - usedL rows - 1))) := Lib.hid (by unfold freeL; rw [hq])
  rw [hq] at HC
  clear hq h
  generalize usedL rows = t at *
  go_enter Tryd.func29, Tryd.ntmps29
  go_wp2_with fail
  refine HC.out.mono ?_
  rintro r w1 ⟨rfl, rfl⟩
  go_wp2_with fail
  refine HU.out.mono ?_
  rintro r w1 ⟨rfl, rfl⟩
  go_wp2_with fail
  all_goals
    go_ret
    refine ⟨?_, rfl⟩
    rw [HF.out]
    refine ret_int ?_
    omega
set_option maxHeartbeats 1000000 in
theorem rerror_any {w : World} {G : Nat → Prop} {v : Value} {rows : List (List Nat)} (n : Nat) (hn : n ≤ 1000000) (h : RR w G v rows) (hu : usedL rows ≤ 1000000) :
    Calls Tryd.prog 32 #[.int .i64 (n : Nat), v] w fun r w' => r = .returned (.int .i64 (errL n rows)) ∧ w' = w := by
  have HC := Lib.hid (rcap_any n hn w)
  have HU := Lib.hid (rused_any h hu)
  obtain ⟨A, c, rfl⟩ := h.shape
  have HR := Lib.hid h
  have hrl := rows_le_used rows
  have hlen : rows.length ≤ 1000000 := by omega
  obtain ⟨q, hq⟩ : ∃ q, n / 2 = q := ⟨_, rfl⟩
  have hq1 : q ≤ 1000000 := by omega
  have HF : Hid (longL rows = false → errL n rows = if (q : Int) - 4 < usedL rows then 9 else 0) := Lib.hid (fun e => by unfold errL; rw [e, hq]; rfl)
  have HF2 : Hid (longL rows = true → errL n rows = 2) := Lib.hid (fun e => by unfold errL; rw [e]; rfl)
  rw [hq] at HC
  clear hq h hrl
  go_enter Tryd.func32, Tryd.ntmps32
  go_wp2_with fail
  go_loopg [5] rows.length (fun g i wr => ∃ k : Nat, k + g = rows.length ∧ i = .int .i64 (k : Nat) ∧ wr = w ∧ ∀ (i : Nat) (r : List Nat), i < k → rows[i]? = some r → r.length ≤ 64)
  case atStart => exact ⟨0, Nat.zero_add _, rfl, rfl, fun i r hi => by omega⟩
  case round =>
    obtain ⟨k, hg, rfl, rfl, hal⟩ := hrel
    have HG := Lib.hid hg
    have HAL := Lib.hid hal
    clear hg hal
    by_cases hlt : k < rows.length
    · obtain ⟨xs, hxs⟩ : ∃ xs, rows[k]? = some xs := ⟨_, List.getElem?_eq_getElem hlt⟩
      obtain ⟨ad, B, d, rfl, hc, _⟩ := HR.out.get hxs
      have HX := Lib.hid hxs
      have hki : (k : Int) < (rows.length : Int) := by omega
      clear hxs
      by_cases h64 : 64 < xs.length
      · have h64i : (64 : Int) < (xs.length : Int) := by omega
        have HE : Hid (errL n rows = 2) := Lib.hid (HF2.out (longL_yes HX.out h64))
        clear h64
        go_wp2_with fail
        go_ret
        exact ⟨by rw [HE.out]; rfl, rfl⟩
      · have h64i : ¬ (64 : Int) < (xs.length : Int) := by omega
        have HNX : Hid (∀ (i : Nat) (r : List Nat), i < k + 1 → rows[i]? = some r → r.length ≤ 64) := Lib.hid (fun i r hi hr => by
          rcases Nat.lt_or_ge i k with h | h
          · exact HAL.out i r h hr
          · obtain rfl : i = k := by omega
            rw [HX.out] at hr
            injection hr with hr
            subst hr
            omega)
        clear h64
        go_wp2_with fail
        go_roundg (gk - 1)
        case measure => have := HG.out; omega
        case rel => exact ⟨k + 1, by have := HG.out; omega, by go_num, rfl, HNX.out⟩
    · have hk : ¬ (k : Int) < (rows.length : Int) := by omega
      have HE := Lib.hid (HF.out (longL_no fun i r hr => HAL.out i r (by have := (List.getElem?_eq_some_iff.1 hr).1; omega) hr))
      clear hlt
      generalize usedL rows = t at *
      by_cases hf : (q : Int) - 4 < (t : Int)
      · have HE2 : Hid (errL n rows = 9) := Lib.hid (by rw [HE.out, if_pos hf])
        go_wp2_with fail
        refine HU.out.mono ?_
        rintro r w1 ⟨rfl, rfl⟩
        go_wp2_with fail
        refine HC.out.mono ?_
        rintro r w1 ⟨rfl, rfl⟩
        go_wp2_with fail
        go_ret
        exact ⟨by rw [HE2.out]; rfl, rfl⟩
      · have HE2 : Hid (errL n rows = 0) := Lib.hid (by rw [HE.out, if_neg hf])
        go_wp2_with fail
        refine HU.out.mono ?_
        rintro r w1 ⟨rfl, rfl⟩
        go_wp2_with fail
        refine HC.out.mono ?_
        rintro r w1 ⟨rfl, rfl⟩
        go_wp2_with fail
        go_ret
        exact ⟨by rw [HE2.out]; rfl, rfl⟩
end J
end Go.Proofs.YtnoohhpajoaaoaaDoor
