/-
  The specification's Check; Has and SameInts of the shared helpers.
-/
import Derived.Test.YtlmbpbhdbgadjaaKTicks
namespace Go.Proofs.Ytlmbpbhdbgadjaa
open Go.RowKit
namespace K
open H
set_option linter.unusedVariables false
set_option maxRecDepth 100000
set_option maxHeartbeats 2000000 in
theorem rcheck_any (t : List Lp) (A : Option Addr) (cap B : Nat) (w : World) (hB : B ≤ w.heap.size) (ht : RdsLp w B A t) (hl : t.length < 140737488355328) :
    Calls Try.prog 36 #[.slice A t.length cap] w fun e w' => e = .returned (.int .i64 (chk t)) ∧ Below w.heap.size w w' := by
  by_cases h32 : 32 < t.length
  · have he : chk t = 2 := by unfold chk; rw [if_pos h32]
    rw [he]
    clear he ht
    generalize t.length = l at *
    have hz : (32 : Int) < (l : Int) := by omega
    go_enter Try.func36, Try.ntmps36
    go_wp2_with fail
    go_ret
    exact ⟨rfl, Below.refl _ _⟩
  · have HT := Lib.hid ht
    have HA := Lib.hid (fun m e (h1 : m < t.length) (h2 : ∀ j, j < m → bad t j = 0) (h3 : bad t m = e) (h4 : e ≠ 0) => chk_at (t := t) (by omega) h1 h2 h3 h4)
    have HOK := Lib.hid (fun (h2 : ∀ j, j < t.length → bad t j = 0) => chk_ok (t := t) (by omega) h2)
    have HGET := Lib.hid (fun k (hk : k < t.length) => (⟨t[k], List.getElem?_eq_getElem hk⟩ : ∃ x, t[k]? = some x))
    clear ht
    generalize chk t = ck at *
    generalize hlen : t.length = l at *
    clear hlen
    have hz : ¬ (32 : Int) < (l : Int) := by omega
    clear hl
    go_enter Try.func36, Try.ntmps36
    go_wp2_with fail
    go_loopg [3] l (fun g i wr => ∃ k : Nat, k + g = l ∧ i = .int .i64 (k : Nat) ∧ Hid (∀ j, j < k → bad t j = 0) ∧ Below w.heap.size w wr)
    case atStart => exact ⟨0, Nat.zero_add _, rfl, Lib.hid (fun j hj => absurd hj (Nat.not_lt_zero _)), Below.refl _ _⟩
    case round =>
      obtain ⟨k, hg, rfl, HBAD, hB⟩ := hrel
      have HG := Lib.hid hg
      have HB := Lib.hid hB
      have hkl : k ≤ l := by omega
      clear hg hB
      by_cases hlt : k < l
      · have hki : (k : Int) < (l : Int) := by omega
        obtain ⟨x, hx⟩ := HGET.out k hlt
        obtain ⟨ad, hA, hadB, hr⟩ := (HT.out.below (HB.out.mono (by omega))) k x hx
        subst hA
        have c0 := hr.c0
        have c1 := hr.c1
        obtain ⟨xp, xo⟩ := x
        dsimp only at c0 c1
        have bel1 : Below w.heap.size w wr := HB.out
        by_cases hrng : xp < 0 ∨ 1000000 < xp ∨ xo < -100 ∨ 100 < xo
        · have hb := bad_range hx hrng
          have hck := HA.out k 5 hlt HBAD.out hb (by decide)
          have HCK := Lib.hid hck
          have hcase : xp < 0 ∨ (¬ xp < 0 ∧ 1000000 < xp) ∨ (¬ xp < 0 ∧ ¬ 1000000 < xp ∧ xo < -100) ∨ (¬ xp < 0 ∧ ¬ 1000000 < xp ∧ ¬ xo < -100 ∧ 100 < xo) := by omega
          have BEL := Lib.hid bel1
          clear hb hck hrng hr hx hlt bel1
          rcases hcase with g | ⟨g, h1⟩ | ⟨g, h1, h2⟩ | ⟨g, h1, h2, h3⟩
          all_goals
            go_wp2_with fail
            go_ret
            exact ⟨by rw [HCK.out]; rfl, BEL.out⟩
        · have h1 : ¬ xo < -100 := by omega
          have h2 : ¬ 100 < xo := by omega
          have h3 : ¬ xp < 0 := by omega
          have h4 : ¬ 1000000 < xp := by omega
          have BEL := Lib.hid bel1
          cases k with
          | zero =>
            have hb := Lib.hid (bad_zero hx hrng)
            have hk0 : ¬ ((0 : Int) < ((0 : Nat) : Int)) := by omega
            have ha0 : ad.add (0 * 2) = ad := by simp [Addr.add]
            rw [ha0] at c0 c1
            clear hrng hr hx hlt bel1
            go_wp2_with fail
            go_region
            all_goals go_wp2_with fail
            all_goals go_roundg (gk - 1)
            case measure => have := HG.out; omega
            case rel => exact ⟨1, by have := HG.out; omega, by go_num, bad_upto HBAD hb.out, BEL.out.drew⟩
          | succ j =>
            obtain ⟨y, hy⟩ := HGET.out j (by omega)
            obtain ⟨ad2, hA2, hadB2, hr2⟩ := (HT.out.below (HB.out.mono (by omega))) j y hy
            obtain rfl := Option.some.inj hA2
            have d0 := hr2.c0
            have hb := bad_succ hx hy hrng
            obtain ⟨yp, yo⟩ := y
            dsimp only at d0 hb
            have hk1 : ((j + 1 : Nat) : Int) - 1 = (j : Int) := by omega
            have hk0 : (0 : Int) < ((j + 1 : Nat) : Int) := by omega
            have hj1 : (j : Int) < (l : Int) := by omega
            by_cases hle : xp ≤ yp
            · rw [if_pos hle] at hb
              have hck := HA.out (j + 1) 23 hlt HBAD.out hb (by decide)
              have HCK := Lib.hid hck
              clear hb hck hrng hr hr2 hx hy hlt bel1
              go_wp2_with fail
              go_region
              all_goals go_wp2_with fail
              all_goals go_ret
              all_goals exact ⟨by rw [HCK.out]; rfl, BEL.out.drew⟩
            · rw [if_neg hle] at hb
              have HBB := Lib.hid hb
              clear hb hrng hr hr2 hx hy hlt bel1
              go_wp2_with fail
              go_region
              all_goals go_wp2_with fail
              all_goals go_roundg (gk - 1)
              case measure => have := HG.out; omega
              case rel => exact ⟨j + 2, by have := HG.out; omega, by go_num, bad_upto HBAD HBB.out, BEL.out.drew⟩
      · have hki : ¬ (k : Int) < (l : Int) := by omega
        obtain rfl : k = l := by omega
        clear hlt
        have HCK := Lib.hid (HOK.out HBAD.out)
        go_wp2_with fail
        go_ret
        exact ⟨by rw [HCK.out]; rfl, HB.out⟩
theorem take_same {xs bs : List Int} {k : Nat} (h : xs.take k = bs.take k) {x y : Int} (hx : xs[k]? = some x) (hy : bs[k]? = some y) (e : x = y) : xs.take (k + 1) = bs.take (k + 1) := by
  subst e
  rw [List.take_add_one, List.take_add_one, h, hx, hy]
theorem take_diff {xs bs : List Int} {k : Nat} {x y : Int} (hx : xs[k]? = some x) (hy : bs[k]? = some y) (e : ¬ x = y) : xs ≠ bs := by
  rintro rfl
  rw [hx] at hy
  exact e (Option.some.inj hy)

set_option maxHeartbeats 1000000 in
theorem sameI_any (A A' : Option Addr) (c c' : Nat) (xs bs : List Int) (w : World) (hn : xs.length ≤ 140737488351232) (hn' : bs.length ≤ 140737488351232) (hr : RdI w w.heap.size .i64 A xs) (hr' : RdI w w.heap.size .i64 A' bs) :
    Calls Try.prog 32 #[.slice A xs.length c, .slice A' bs.length c'] w fun e w' => e = .returned (.bool (decide (xs = bs))) ∧ Below w.heap.size w w' := by
  have HR := Lib.hid hr
  have HR' := Lib.hid hr'
  clear hr hr'
  by_cases hnn : xs.length = bs.length
  · have HL : Hid (xs.length = xs.length) := Lib.hid rfl
    have HL' := Lib.hid hnn.symm
    rw [← hnn]
    generalize hlen : xs.length = n at *
    have HLN := Lib.hid hlen
    clear hlen hnn
    go_enter Try.func32, Try.ntmps32
    go_wp2_with fail
    go_loopg [5] n (fun g i wr => ∃ k : Nat, k + g = n ∧ i = .int .i64 (k : Nat) ∧ Hid (xs.take k = bs.take k) ∧ Below w.heap.size w wr)
    case atStart => exact ⟨0, Nat.zero_add _, rfl, Lib.hid (by simp), Below.refl _ _⟩
    case round =>
      obtain ⟨k, hg, rfl, HT, hB⟩ := hrel
      have HG := Lib.hid hg
      have HB := Lib.hid hB
      have hkn : k ≤ n := by omega
      clear hg hB
      by_cases hlt : k < n
      · have HLT := Lib.hid hlt
        obtain ⟨ad, rfl, _, hx⟩ := HR.out.below HB.out k (by rw [HLN.out]; exact hlt)
        obtain ⟨bd, rfl, _, hy⟩ := HR'.out.below HB.out k (by rw [HL'.out]; exact hlt)
        have gx : xs[k]? = some (xs[k]?.getD 0) := by rw [List.getElem?_eq_getElem (by rw [HLN.out]; exact hlt)]; rfl
        have gy : bs[k]? = some (bs[k]?.getD 0) := by rw [List.getElem?_eq_getElem (by rw [HL'.out]; exact hlt)]; rfl
        generalize xs[k]?.getD 0 = x at hx gx
        generalize bs[k]?.getD 0 = y at hy gy
        have GX := Lib.hid gx
        have GY := Lib.hid gy
        have hki : (k : Int) < (n : Int) := by omega
        clear gx gy hlt
        by_cases hxy : x = y
        · have HXY := Lib.hid (take_same HT.out GX.out GY.out hxy)
          subst hxy
          go_wp2_with fail
          go_region
          all_goals go_wp2_with fail
          all_goals go_roundg (gk - 1)
          case measure => have := HG.out; have := HLT.out; omega
          case rel => exact ⟨k + 1, by have := HG.out; have := HLT.out; omega, by go_num, HXY, HB.out.drew⟩
        · have HXY := Lib.hid (take_diff GX.out GY.out hxy)
          go_wp2_with fail
          go_region
          all_goals go_wp2_with fail
          all_goals go_ret
          all_goals exact ⟨by rw [decide_eq_false HXY.out]; rfl, HB.out.drew⟩
      · have ht := HT.out
        rw [List.take_of_length_le (by rw [HLN.out]; omega), List.take_of_length_le (by rw [HL'.out]; omega)] at ht
        have HTT := Lib.hid ht
        have hki : ¬ (k : Int) < (n : Int) := by omega
        clear ht hlt
        go_wp2_with fail
        go_ret
        exact ⟨by rw [decide_eq_true HTT.out]; rfl, HB.out⟩
  · have hne : decide (xs = bs) = false := by
      rw [decide_eq_false_iff_not]
      rintro rfl
      exact hnn rfl
    rw [hne]
    clear hne
    generalize xs.length = n at *
    generalize bs.length = n' at *
    have hnn2 : ¬ ((n : Int) = (n' : Int)) := by omega
    clear hnn
    go_enter Try.func32, Try.ntmps32
    go_wp2_with fail
    go_ret
    exact ⟨rfl, Below.refl _ _⟩
set_option maxHeartbeats 1000000 in
theorem has_any (A : Option Addr) (c : Nat) (xs : List Int) (y : Int) (w : World) (hn : xs.length ≤ 140737488351232) (hr : RdI w w.heap.size .i64 A xs) :
    Calls Try.prog 34 #[.slice A xs.length c, .int .i64 y] w fun e w' => e = .returned (.bool (decide (y ∈ xs))) ∧ w' = w := by
  have HR := Lib.hid hr
  clear hr
  have HOUT : Hid ((∀ (j : Nat), j < xs.length → xs[j]? ≠ some y) → decide (y ∈ xs) = false) := Lib.hid (fun h => by
    rw [decide_eq_false_iff_not]
    intro hm
    obtain ⟨j, hj⟩ := List.mem_iff_getElem?.1 hm
    exact h j (List.getElem?_eq_some_iff.1 hj).1 hj)
  have HIN : Hid (∀ j : Nat, xs[j]? = some y → decide (y ∈ xs) = true) := Lib.hid (fun j h => decide_eq_true (List.mem_of_getElem? h))
  have HGET := Lib.hid (fun k (hk : k < xs.length) => (⟨xs[k], List.getElem?_eq_getElem hk⟩ : ∃ x, xs[k]? = some x))
  generalize hlen : xs.length = n at *
  have HLN := Lib.hid hlen
  clear hlen
  generalize decide (y ∈ xs) = d at *
  go_enter Try.func34, Try.ntmps34
  go_wp2_with fail
  go_loopg [5] n (fun g i wr => ∃ k : Nat, k + g = n ∧ i = .int .i64 (k : Nat) ∧ Hid (∀ j, j < k → xs[j]? ≠ some y) ∧ wr = w)
  case atStart => exact ⟨0, Nat.zero_add _, rfl, Lib.hid (fun j hj => absurd hj (Nat.not_lt_zero _)), rfl⟩
  case round =>
    obtain ⟨k, hg, rfl, HT, rfl⟩ := hrel
    have HG := Lib.hid hg
    have hkn : k ≤ n := by omega
    clear hg
    by_cases hlt : k < n
    · have HLT := Lib.hid hlt
      obtain ⟨x, hx⟩ := HGET.out k hlt
      obtain ⟨ad, rfl, _, cx⟩ := HR.out k (by rw [HLN.out]; exact hlt)
      rw [hx] at cx
      dsimp only [Option.getD_some] at cx
      have HX := Lib.hid hx
      have hki : (k : Int) < (n : Int) := by omega
      clear hx hlt
      by_cases hxy : x = y
      · subst hxy
        have HD := Lib.hid (HIN.out k HX.out)
        go_wp2_with fail
        go_ret
        exact ⟨by rw [HD.out]; rfl, rfl⟩
      · have HNX : Hid (∀ j, j < k + 1 → xs[j]? ≠ some y) := Lib.hid (fun j hj hjx => by
          rcases Nat.lt_or_ge j k with h | h
          · exact HT.out j h hjx
          · obtain rfl : j = k := by omega
            rw [HX.out] at hjx
            exact hxy (Option.some.inj hjx))
        go_wp2_with fail
        go_roundg (gk - 1)
        case measure => have := HG.out; have := HLT.out; omega
        case rel => exact ⟨k + 1, by have := HG.out; have := HLT.out; omega, by go_num, HNX, rfl⟩
    · obtain rfl : k = n := by omega
      have HD := Lib.hid (HOUT.out HT.out)
      clear hlt
      go_wp2_with fail
      go_ret
      exact ⟨by rw [HD.out]; rfl, rfl⟩
end K
end Go.Proofs.Ytlmbpbhdbgadjaa
