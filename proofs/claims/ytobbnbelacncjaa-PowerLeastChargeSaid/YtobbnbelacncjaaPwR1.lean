/-
  perigeeref10: Valid, before, Gain, End, Essential, Reserve, Survives.
-/
import Derived.Test.YtobbnbelacncjaaPwK
namespace Go.Proofs.Ytobbnbelacncjaa
open Go.RowKit
namespace Pw
open H
set_option linter.unusedVariables false
set_option linter.unusedSimpArgs false
set_option maxRecDepth 100000
theorem ret_b {a b : Bool} (h : (a = true) ↔ (b = true)) : Ending.returned (.bool a) = .returned (.bool b) := by rw [Bool.eq_iff_iff.2 h]
set_option maxHeartbeats 2000000 in
theorem rvalid_any (b : Bt) (w : World) : Calls Try.prog 36 #[b.v] w fun e w' => e = .returned (.bool b.ok) ∧ Below w.heap.size w w' := by
  unfold Bt.ok
  go_enter Try.func36, Try.ntmps36
  go_wp2_with fail
  all_goals
    go_ret
    exact ⟨by first | rfl | (refine ret_b ?_; first | (simp only [decide_eq_true_eq, decide_eq_false_iff_not, Bool.not_true, Bool.not_false, Bool.true_eq_false, Bool.false_eq_true, true_iff, false_iff, iff_true, iff_false, Bool.and_eq_true, Bool.or_eq_true, Bool.not_eq_true', Bool.or_eq_false_iff, Bool.and_eq_false_imp, Bool.not_eq_eq_eq_not, reduceCtorEq, Bool.not_eq_true, beq_iff_eq, bne_iff_ne, ne_eq, Bool.not_eq_false, beq_eq_false_iff_ne, bne_eq_false_iff_eq, Bool.false_or, Bool.true_and, Bool.or_false, Bool.and_true]; omega) | (simp only [decide_eq_true_eq, decide_eq_false_iff_not, Bool.not_true, Bool.not_false, Bool.true_eq_false, Bool.false_eq_true, true_iff, false_iff, iff_true, iff_false, Bool.and_eq_true, Bool.or_eq_true, Bool.not_eq_true', Bool.or_eq_false_iff, Bool.and_eq_false_imp, Bool.not_eq_eq_eq_not, reduceCtorEq, Bool.not_eq_true, beq_iff_eq, bne_iff_ne, ne_eq, Bool.not_eq_false, beq_eq_false_iff_ne, bne_eq_false_iff_eq, Bool.false_or, Bool.true_and, Bool.or_false, Bool.and_true] at *; first | done | omega) | omega), bel1 w _⟩
set_option maxHeartbeats 2000000 in
theorem rbefore_any (a b : Ld) (w : World) : Calls Try.prog 60 #[a.v, b.v] w fun e w' => e = .returned (.bool (bef a b)) ∧ Below w.heap.size w w' := by
  obtain ⟨ai, ap, ar, ae⟩ := a
  obtain ⟨bi, bp, br, be⟩ := b
  dsimp only [Ld.v, bef]
  cases ae <;> cases be
  all_goals
    go_enter Try.func60, Try.ntmps60
    go_wp2_with fail
    all_goals
      go_ret
      exact ⟨by first | rfl | (refine ret_b ?_; first | (simp only [decide_eq_true_eq, decide_eq_false_iff_not, Bool.not_true, Bool.not_false, Bool.true_eq_false, Bool.false_eq_true, true_iff, false_iff, iff_true, iff_false, Bool.and_eq_true, Bool.or_eq_true, Bool.not_eq_true', Bool.or_eq_false_iff, Bool.and_eq_false_imp, Bool.not_eq_eq_eq_not, reduceCtorEq, Bool.not_eq_true, beq_iff_eq, bne_iff_ne, ne_eq, Bool.not_eq_false, beq_eq_false_iff_ne, bne_eq_false_iff_eq, Bool.false_or, Bool.true_and, Bool.or_false, Bool.and_true]; omega) | (simp only [decide_eq_true_eq, decide_eq_false_iff_not, Bool.not_true, Bool.not_false, Bool.true_eq_false, Bool.false_eq_true, true_iff, false_iff, iff_true, iff_false, Bool.and_eq_true, Bool.or_eq_true, Bool.not_eq_true', Bool.or_eq_false_iff, Bool.and_eq_false_imp, Bool.not_eq_eq_eq_not, reduceCtorEq, Bool.not_eq_true, beq_iff_eq, bne_iff_ne, ne_eq, Bool.not_eq_false, beq_eq_false_iff_ne, bne_eq_false_iff_eq, Bool.false_or, Bool.true_and, Bool.or_false, Bool.and_true] at *; first | done | omega) | omega), bel2 w _ _⟩
set_option maxHeartbeats 4000000 in
theorem rgain_any (T : List Q.Wn) (A : Option Addr) (cap B : Nat) (a t sun : Int) (w : World) (hB : B ≤ w.heap.size) (hlen : T.length ≤ 140737488351232) (hR : Q.RdsWn w B A T) :
    Calls Try.prog 44 #[.slice A T.length cap, .int .i64 a, .int .i64 t, .int .i64 sun] w fun e w' => e = .returned (.int .i64 (gn T a t sun)) ∧ Below w.heap.size w w' := by
  have HR := Lib.hid hR
  have HGET := Lib.hid (fun k (hk : k < T.length) => (⟨T[k], List.getElem?_eq_getElem hk⟩ : ∃ x, T[k]? = some x))
  have HN : Hid ((∀ i x, i < T.length → T[i]? = some x → dk a t x = false) → gn T a t sun = sun) := Lib.hid (fun h => by
    unfold gn
    rw [if_neg]
    rw [List.any_eq_true]
    rintro ⟨x, hx, hd⟩
    obtain ⟨i, hi⟩ := List.mem_iff_getElem?.1 hx
    rw [h i x (List.getElem?_eq_some_iff.1 hi).1 hi] at hd
    cases hd)
  have HS : Hid (∀ (i : Nat) x, T[i]? = some x → dk a t x = true → gn T a t sun = 0) := Lib.hid (fun i x h1 h2 => by
    unfold gn
    rw [if_pos (List.any_eq_true.2 ⟨x, List.mem_of_getElem? h1, h2⟩)])
  clear hR
  generalize T.length = len at *
  generalize gn T a t sun = res at *
  go_enter Try.func44, Try.ntmps44
  go_wp2_with fail
  go_loopg [9] len (fun g i wr => ∃ q : Nat, q + g = len ∧ i = .int .i64 (q : Nat) ∧ Hid (∀ j y, j < q → T[j]? = some y → dk a t y = false) ∧ Below w.heap.size w wr)
  case atStart => exact ⟨0, Nat.zero_add _, rfl, Lib.hid (fun j y hj => absurd hj (Nat.not_lt_zero _)), Below.refl _ _⟩
  case round =>
    obtain ⟨q, hg, rfl, HT, hB2⟩ := hrel
    have BEL := Lib.hid hB2
    have HG := Lib.hid hg
    have hqn : q ≤ len := by omega
    clear hg hB2
    by_cases hlt : q < len
    · have HLT := Lib.hid hlt
      have hqi : (q : Int) < (len : Int) := by omega
      obtain ⟨x, hx⟩ := HGET.out q hlt
      obtain ⟨ad, rfl, had, hr⟩ := HR.out.below (BEL.out.mono hB) q x hx
      have c0 := hr.c0
      have c1 := hr.c1
      have c2 := hr.c2
      have c3 := hr.c3
      have c4 := hr.c4
      have HXX := Lib.hid hx
      by_cases h1 : x.kind = 3
      · by_cases h2 : x.a = a
        · by_cases h3 : x.fr ≤ t
          · by_cases h4 : t < x.un
            · have HV := Lib.hid (HS.out q x hx (by unfold dk; exact decide_eq_true ⟨h1, h2, h3, h4⟩))
              clear hr hx had hlt
              go_wp2_with fail
              go_ret
              exact ⟨by rw [HV.out]; rfl, BEL.out⟩
            · skip
              have HD : Hid (dk a t x = false) := Lib.hid (by unfold dk; exact decide_eq_false (by omega))
              clear hr hx had hlt
              go_wp2_with fail
              go_roundg (gk - 1)
              case measure => have := HG.out; have := HLT.out; omega
              case rel => exact ⟨q + 1, by have := HG.out; have := HLT.out; omega, by go_num, Lib.hid (fun j y hj hy => by
                rcases Nat.lt_or_ge j q with h | h
                · exact HT.out j y h hy
                · obtain rfl : j = q := by omega
                  rw [HXX.out] at hy
                  obtain rfl := Option.some.inj hy
                  exact HD.out), BEL.out⟩
          · skip
            have HD : Hid (dk a t x = false) := Lib.hid (by unfold dk; exact decide_eq_false (by omega))
            clear hr hx had hlt
            go_wp2_with fail
            go_roundg (gk - 1)
            case measure => have := HG.out; have := HLT.out; omega
            case rel => exact ⟨q + 1, by have := HG.out; have := HLT.out; omega, by go_num, Lib.hid (fun j y hj hy => by
              rcases Nat.lt_or_ge j q with h | h
              · exact HT.out j y h hy
              · obtain rfl : j = q := by omega
                rw [HXX.out] at hy
                obtain rfl := Option.some.inj hy
                exact HD.out), BEL.out⟩
        · skip
          have HD : Hid (dk a t x = false) := Lib.hid (by unfold dk; exact decide_eq_false (by omega))
          clear hr hx had hlt
          go_wp2_with fail
          go_roundg (gk - 1)
          case measure => have := HG.out; have := HLT.out; omega
          case rel => exact ⟨q + 1, by have := HG.out; have := HLT.out; omega, by go_num, Lib.hid (fun j y hj hy => by
            rcases Nat.lt_or_ge j q with h | h
            · exact HT.out j y h hy
            · obtain rfl : j = q := by omega
              rw [HXX.out] at hy
              obtain rfl := Option.some.inj hy
              exact HD.out), BEL.out⟩
      · skip
        have HD : Hid (dk a t x = false) := Lib.hid (by unfold dk; exact decide_eq_false (by omega))
        clear hr hx had hlt
        go_wp2_with fail
        go_roundg (gk - 1)
        case measure => have := HG.out; have := HLT.out; omega
        case rel => exact ⟨q + 1, by have := HG.out; have := HLT.out; omega, by go_num, Lib.hid (fun j y hj hy => by
          rcases Nat.lt_or_ge j q with h | h
          · exact HT.out j y h hy
          · obtain rfl : j = q := by omega
            rw [HXX.out] at hy
            obtain rfl := Option.some.inj hy
            exact HD.out), BEL.out⟩
    · have hqi : ¬ (q : Int) < (len : Int) := by omega
      have HV := Lib.hid (HN.out (fun i x hi hx => HT.out i x (by omega) hx))
      go_wp2_with fail
      go_ret
      exact ⟨by rw [HV.out]; rfl, BEL.out⟩
set_option maxHeartbeats 4000000 in
theorem rend_any (T : List Q.Wn) (A : Option Addr) (cap B : Nat) (w : World) (hB : B ≤ w.heap.size) (hlen : T.length ≤ 140737488351232) (hR : Q.RdsWn w B A T) :
    Calls Try.prog 27 #[.slice A T.length cap] w fun e w' => e = .returned (.int .i64 (endT T 0)) ∧ Below w.heap.size w w' := by
  have HR := Lib.hid hR
  have HGET := Lib.hid (fun k (hk : k < T.length) => (⟨T[k], List.getElem?_eq_getElem hk⟩ : ∃ x, T[k]? = some x))
  have HST := Lib.hid (fun i x (h : T[i]? = some x) => endT_step h)
  have HALL : Hid (endT (T.take T.length) 0 = endT T 0) := Lib.hid (by rw [List.take_length])
  have H0 : Hid (endT (T.take 0) 0 = 0) := Lib.hid rfl
  clear hR
  generalize T.length = len at *
  generalize endT T 0 = res at *
  go_enter Try.func27, Try.ntmps27
  go_wp2_with fail
  go_loopg [3, 4] len (fun g s i wr => ∃ q : Nat, q + g = len ∧ i = .int .i64 (q : Nat) ∧ s = .int .i64 (endT (T.take q) 0) ∧ Below w.heap.size w wr)
  case atStart => exact ⟨0, Nat.zero_add _, rfl, by rw [H0.out], Below.refl _ _⟩
  case round =>
    obtain ⟨q, hg, rfl, rfl, hB2⟩ := hrel
    have BEL := Lib.hid hB2
    have HG := Lib.hid hg
    have hqn : q ≤ len := by omega
    clear hg hB2
    by_cases hlt : q < len
    · have HLT := Lib.hid hlt
      have hqi : (q : Int) < (len : Int) := by omega
      obtain ⟨x, hx⟩ := HGET.out q hlt
      obtain ⟨ad, rfl, had, hr⟩ := HR.out.below (BEL.out.mono hB) q x hx
      have c0 := hr.c0
      have c1 := hr.c1
      have c2 := hr.c2
      have c3 := hr.c3
      have c4 := hr.c4
      have HXX := Lib.hid hx
      have HSX := Lib.hid (HST.out q x hx)
      clear hr hx had hlt
      generalize endT (T.take q) 0 = sq at *
      by_cases hm : sq < x.un
      · have HSY : Hid (endT (T.take (q + 1)) 0 = x.un) := Lib.hid (by rw [HSX.out]; omega)
        go_wp2_with fail
        go_roundg (gk - 1)
        case measure => have := HG.out; have := HLT.out; omega
        case rel => exact ⟨q + 1, by have := HG.out; have := HLT.out; omega, by go_num, by rw [HSY.out], BEL.out⟩
      · have HSY : Hid (endT (T.take (q + 1)) 0 = sq) := Lib.hid (by rw [HSX.out]; omega)
        go_wp2_with fail
        go_roundg (gk - 1)
        case measure => have := HG.out; have := HLT.out; omega
        case rel => exact ⟨q + 1, by have := HG.out; have := HLT.out; omega, by go_num, by rw [HSY.out], BEL.out⟩
    · obtain rfl : q = len := by omega
      have hqi : ¬ (q : Int) < (q : Int) := by omega
      rw [HALL.out]
      go_wp2_with fail
      go_ret
      exact ⟨rfl, BEL.out⟩
set_option maxHeartbeats 4000000 in
theorem ressential_any (T : List Ld) (A : Option Addr) (cap B : Nat) (w : World) (hB : B ≤ w.heap.size) (hlen : T.length ≤ 1000) (hT : ∀ x ∈ T, 0 ≤ x.pow ∧ x.pow ≤ 2147483647) (hR : RdsLd w B A T) :
    Calls Try.prog 17 #[.slice A T.length cap] w fun e w' => e = .returned (.int .i64 (esum T)) ∧ Below w.heap.size w w' := by
  have HR := Lib.hid hR
  have HGET := Lib.hid (fun k (hk : k < T.length) => (⟨T[k], List.getElem?_eq_getElem hk⟩ : ∃ x, T[k]? = some x))
  have HST := Lib.hid (fun i x (h : T[i]? = some x) => esum_step h)
  have HPW := Lib.hid (fun i x (h : T[i]? = some x) => hT x (List.mem_of_getElem? h))
  have HBD : Hid (∀ i, 0 ≤ esum (T.take i) ∧ esum (T.take i) ≤ 2147483647000) := Lib.hid (fun i => by
    have h := esum_bd (L := T.take i) (fun x hx => hT x (List.mem_of_mem_take hx))
    have h2 : (T.take i).length ≤ 1000 := by rw [List.length_take]; omega
    omega)
  have HALL : Hid (esum (T.take T.length) = esum T) := Lib.hid (by rw [List.take_length])
  have H0 : Hid (esum (T.take 0) = 0) := Lib.hid rfl
  clear hR hT
  generalize T.length = len at *
  generalize esum T = res at *
  go_enter Try.func17, Try.ntmps17
  go_wp2_with fail
  go_loopg [3, 4] len (fun g s i wr => ∃ q : Nat, q + g = len ∧ i = .int .i64 (q : Nat) ∧ s = .int .i64 (esum (T.take q)) ∧ Below w.heap.size w wr)
  case atStart => exact ⟨0, Nat.zero_add _, rfl, by rw [H0.out], Below.refl _ _⟩
  case round =>
    obtain ⟨q, hg, rfl, rfl, hB2⟩ := hrel
    have BEL := Lib.hid hB2
    have HG := Lib.hid hg
    have hqn : q ≤ len := by omega
    clear hg hB2
    by_cases hlt : q < len
    · have HLT := Lib.hid hlt
      have hqi : (q : Int) < (len : Int) := by omega
      obtain ⟨x, hx⟩ := HGET.out q hlt
      obtain ⟨ad, rfl, had, hr⟩ := HR.out.below (BEL.out.mono hB) q x hx
      have c0 := hr.c0
      have c1 := hr.c1
      have c2 := hr.c2
      have c3 := hr.c3
      have HXX := Lib.hid hx
      have hbd := HBD.out q
      have hpw := HPW.out q x hx
      have HSX := Lib.hid (HST.out q x hx)
      clear hr hx had hlt
      generalize esum (T.take q) = sq at *
      cases he : x.ess with
      | false =>
        rw [he] at HSX c3
        clear he
        go_wp2_with fail
        go_roundg (gk - 1)
        case measure => have := HG.out; have := HLT.out; omega
        case rel => exact ⟨q + 1, by have := HG.out; have := HLT.out; omega, by go_num, by rw [HSX.out]; simp, BEL.out⟩
      | true =>
        rw [he] at HSX c3
        clear he
        have hwr : IntKind.i64.wrap (sq + x.pow) = sq + x.pow := IntWalk.i64_in _ (by omega)
        go_wp2_with fail
        go_roundg (gk - 1)
        case measure => have := HG.out; have := HLT.out; omega
        case rel => exact ⟨q + 1, by have := HG.out; have := HLT.out; omega, by go_num, by rw [HSX.out]; simp, BEL.out⟩
    · obtain rfl : q = len := by omega
      have hqi : ¬ (q : Int) < (q : Int) := by omega
      rw [HALL.out]
      go_wp2_with fail
      go_ret
      exact ⟨rfl, BEL.out⟩
end Pw
end Go.Proofs.Ytobbnbelacncjaa
