/-
  The specification's step, and the law's hop.
-/
import Derived.Test.YtojflmejkigdiaaQStM
import Derived.Test.YtojflmejkigdiaaQRAt
namespace Go.Proofs.Ytojflmejkigdiaa
open Go.RowKit Go.Shelf
namespace Q
open H
set_option linter.unusedVariables false
set_option linter.unusedSimpArgs false
set_option maxRecDepth 100000
theorem hop_x (x : Wn) (f t k size : Int) (w : World) (hx : fm x = true) (hk : 0 ≤ k ∧ k ≤ 1000001) (hs : 1 ≤ size ∧ size ≤ 100000) : Calls Try.prog 57 #[x.v, .int .i64 f, .int .i64 t, .int .i64 k, .int .i64 size] w fun e w' => (∃ v ok, e = .returned (.tuple #[.int .i64 v, .bool ok]) ∧ (ok = true → hopO x f t k size = some v) ∧ (ok = false → hopO x f t k size = none)) ∧ Below w.heap.size w w' := by
  refine (rhop_any x f t k size w (fun h => (lkOk_ok (decide_eq_true ⟨h, hx⟩)).1) (by unfold fm suits at hx; simp only [decide_eq_true_eq] at hx; omega) hk hs).mono ?_
  rintro e w' ⟨h1, h2⟩
  refine ⟨?_, h2⟩
  by_cases hv : via x f t = true
  · rw [if_pos hv] at h1
    refine ⟨_, _, h1, fun h => ?_, fun h => ?_⟩
    · unfold hopO; rw [if_pos ⟨hv, of_decide_eq_true h⟩]
    · unfold hopO; rw [if_neg (fun h3 => of_decide_eq_false h h3.2)]
  · rw [if_neg hv] at h1
    exact ⟨_, _, h1, (fun h => by cases h), (fun _ => by unfold hopO; rw [if_neg (fun h3 => hv h3.1)])⟩
set_option maxHeartbeats 4000000 in
theorem rstep_any (T : List Wn) (A : Option Addr) (cap B : Nat) (f t k size : Int) (w : World) (hB : B ≤ w.heap.size) (hlen : T.length ≤ 140737488351232) (hT : ∀ x ∈ T, fm x = true) (hk : 0 ≤ k ∧ k ≤ 1000001) (hs : 1 ≤ size ∧ size ≤ 100000) (hR : RdsWn w B A T) :
    Calls Try.prog 56 #[.slice A T.length cap, .int .i64 f, .int .i64 t, .int .i64 k, .int .i64 size] w fun e w' => e = .returned (.tuple #[.int .i64 ((stp T f t k size).getD 0), .bool (stp T f t k size).isSome]) ∧ Below w.heap.size w w' := by
  have HH : Hid (∀ i x W, T[i]? = some x → Calls Try.prog 57 #[x.v, .int .i64 f, .int .i64 t, .int .i64 k, .int .i64 size] W fun e w' => (∃ v ok, e = .returned (.tuple #[.int .i64 v, .bool ok]) ∧ (ok = true → hopO x f t k size = some v) ∧ (ok = false → hopO x f t k size = none)) ∧ Below W.heap.size W w') := Lib.hid (fun i x W hx => (hop_x x f t k size W (hT x (List.mem_of_getElem? hx)) hk hs))
  have HR := Lib.hid hR
  have HGET := Lib.hid (fun k (hk : k < T.length) => (⟨T[k], List.getElem?_eq_getElem hk⟩ : ∃ x, T[k]? = some x))
  have HST := Lib.hid (fun i x (h : T[i]? = some x) => stp_step f t k size h)
  have HALL : Hid (stp (T.take T.length) f t k size = stp T f t k size) := Lib.hid (by rw [List.take_length])
  have H0 : Hid (stp (T.take 0) f t k size = none) := Lib.hid rfl
  clear hR hT hk hs
  generalize T.length = len at *
  generalize stp T f t k size = res at *
  generalize hS : (fun i => stp (T.take i) f t k size) = S at *
  have HSE := Lib.hid hS
  replace HST := Lib.hid (fun i x h => (by rw [← HSE.out]; exact HST.out i x h : S (i + 1) = comb (S i) (hopO x f t k size)))
  replace HALL : Hid (S len = res) := Lib.hid (by rw [← HSE.out]; exact HALL.out)
  replace H0 : Hid (S 0 = none) := Lib.hid (by rw [← HSE.out]; exact H0.out)
  clear hS HSE
  go_enter Try.func56, Try.ntmps56
  go_wp2_with fail
  go_loopg [12, 13, 14] len (fun g bs fd i wr => ∃ q : Nat, q + g = len ∧ i = .int .i64 (q : Nat) ∧ bs = .int .i64 ((S q).getD 0) ∧ fd = .bool (S q).isSome ∧ Below w.heap.size w wr)
  case atStart => exact ⟨0, Nat.zero_add _, rfl, by rw [H0.out]; rfl, by rw [H0.out]; rfl, Below.refl _ _⟩
  case round =>
    obtain ⟨q, hg, rfl, rfl, rfl, hB2⟩ := hrel
    have BEL := Lib.hid hB2
    have HG := Lib.hid hg
    have hqn : q ≤ len := by omega
    clear hg hB2
    by_cases hlt : q < len
    · have HLT := Lib.hid hlt
      have hqi : (q : Int) < (len : Int) := by omega
      obtain ⟨x, hx⟩ := HGET.out q hlt
      obtain ⟨ad, rfl, had, hr⟩ := HR.out.below (BEL.out.mono hB) q x hx
      have c0 := hr.c0
      have c1 := hr.c1
      have c2 := hr.c2
      have c3 := hr.c3
      have c4 := hr.c4
      have c5 := hr.c5
      have HSX := Lib.hid (HST.out q x hx)
      have HH2 := Lib.hid (HH.out q x wr hx)
      clear hr hx had hlt
      generalize hopO x f t k size = ho at *
      generalize S q = so at *
      go_upto_region 7 with (go_at_call 57; refine (HH2.out).mono ?_; rintro e w3 ⟨⟨v, ok, rfl, hv1, hv2⟩, hB3⟩; have HB3 := Lib.hid hB3; have HV1 := Lib.hid hv1; have HV2 := Lib.hid hv2; clear hB3 hv1 hv2)
      cases ok with
      | false =>
        have he := HV2.out rfl
        subst he
        have HSX2 : Hid (S (q + 1) = so) := Lib.hid HSX.out
        clear HSX HV1 HV2
        go_wp2_with fail
        go_roundg (gk - 1)
        case measure => have := HG.out; have := HLT.out; omega
        case rel => exact ⟨q + 1, by have := HG.out; have := HLT.out; omega, by go_num, by rw [HSX2.out], by rw [HSX2.out], BEL.out.trans (HB3.out.mono BEL.out.size)⟩
      | true =>
        have he := HV1.out rfl
        subst he
        clear HV1 HV2
        cases so with
        | none =>
          have HSX2 : Hid (S (q + 1) = some v) := Lib.hid HSX.out
          clear HSX
          dsimp only [Option.getD, Option.isSome]
          go_wp2_with fail
          go_roundg (gk - 1)
          case measure => have := HG.out; have := HLT.out; omega
          case rel => exact ⟨q + 1, by have := HG.out; have := HLT.out; omega, by go_num, by rw [HSX2.out]; rfl, by rw [HSX2.out]; rfl, BEL.out.trans (HB3.out.mono BEL.out.size)⟩
        | some m =>
          dsimp only [Option.getD, Option.isSome]
          by_cases hvm : v < m
          · have HSX2 : Hid (S (q + 1) = some v) := Lib.hid (HSX.out.trans (by unfold comb; dsimp only; rw [if_pos hvm]))
            clear HSX
            go_wp2_with fail
            go_roundg (gk - 1)
            case measure => have := HG.out; have := HLT.out; omega
            case rel => exact ⟨q + 1, by have := HG.out; have := HLT.out; omega, by go_num, by rw [HSX2.out]; rfl, by rw [HSX2.out]; rfl, BEL.out.trans (HB3.out.mono BEL.out.size)⟩
          · have HSX2 : Hid (S (q + 1) = some m) := Lib.hid (HSX.out.trans (by unfold comb; dsimp only; rw [if_neg hvm]))
            clear HSX
            go_wp2_with fail
            go_roundg (gk - 1)
            case measure => have := HG.out; have := HLT.out; omega
            case rel => exact ⟨q + 1, by have := HG.out; have := HLT.out; omega, by go_num, by rw [HSX2.out]; rfl, by rw [HSX2.out]; rfl, BEL.out.trans (HB3.out.mono BEL.out.size)⟩
    · have hqi : ¬ (q : Int) < (len : Int) := by omega
      have HE : Hid (S q = res) := Lib.hid (by rw [show q = len by omega]; exact HALL.out)
      go_wp2_with fail
      refine bodyPost_ret (v := .tuple #[.int .i64 ((S q).getD 0), .bool (S q).isSome]) (by simp [results, Try.results56, go_sem]) rfl ⟨by rw [HE.out], BEL.out⟩
set_option maxHeartbeats 4000000 in
theorem lhop_any (T : List Wn) (A : Option Addr) (cap B : Nat) (f t k size : Int) (w : World) (hB : B ≤ w.heap.size) (hlen : T.length ≤ 140737488351232) (hT : ∀ x ∈ T, fm x = true) (hk : 0 ≤ k ∧ k ≤ 1000001) (hs : 1 ≤ size ∧ size ≤ 100000) (hR : RdsWn w B A T) :
    Calls Try.prog 30 #[.slice A T.length cap, .int .i64 f, .int .i64 t, .int .i64 k, .int .i64 size] w fun e w' => e = .returned (.tuple #[.int .i64 ((stp T f t k size).getD 0), .bool (stp T f t k size).isSome]) ∧ Below w.heap.size w w' := by
  have HH : Hid (∀ i x W, T[i]? = some x → Calls Try.prog 57 #[x.v, .int .i64 f, .int .i64 t, .int .i64 k, .int .i64 size] W fun e w' => (∃ v ok, e = .returned (.tuple #[.int .i64 v, .bool ok]) ∧ (ok = true → hopO x f t k size = some v) ∧ (ok = false → hopO x f t k size = none)) ∧ Below W.heap.size W w') := Lib.hid (fun i x W hx => (hop_x x f t k size W (hT x (List.mem_of_getElem? hx)) hk hs))
  have HR := Lib.hid hR
  have HGET := Lib.hid (fun k (hk : k < T.length) => (⟨T[k], List.getElem?_eq_getElem hk⟩ : ∃ x, T[k]? = some x))
  have HST := Lib.hid (fun i x (h : T[i]? = some x) => stp_step f t k size h)
  have HALL : Hid (stp (T.take T.length) f t k size = stp T f t k size) := Lib.hid (by rw [List.take_length])
  have H0 : Hid (stp (T.take 0) f t k size = none) := Lib.hid rfl
  clear hR hT hk hs
  generalize T.length = len at *
  generalize stp T f t k size = res at *
  generalize hS : (fun i => stp (T.take i) f t k size) = S at *
  have HSE := Lib.hid hS
  replace HST := Lib.hid (fun i x h => (by rw [← HSE.out]; exact HST.out i x h : S (i + 1) = comb (S i) (hopO x f t k size)))
  replace HALL : Hid (S len = res) := Lib.hid (by rw [← HSE.out]; exact HALL.out)
  replace H0 : Hid (S 0 = none) := Lib.hid (by rw [← HSE.out]; exact H0.out)
  clear hS HSE
  go_enter Try.func30, Try.ntmps30
  go_wp2_with fail
  go_loopg [12, 13, 14] len (fun g bs fd i wr => ∃ q : Nat, q + g = len ∧ i = .int .i64 (q : Nat) ∧ bs = .int .i64 ((S q).getD 0) ∧ fd = .bool (S q).isSome ∧ Below w.heap.size w wr)
  case atStart => exact ⟨0, Nat.zero_add _, rfl, by rw [H0.out]; rfl, by rw [H0.out]; rfl, Below.refl _ _⟩
  case round =>
    obtain ⟨q, hg, rfl, rfl, rfl, hB2⟩ := hrel
    have BEL := Lib.hid hB2
    have HG := Lib.hid hg
    have hqn : q ≤ len := by omega
    clear hg hB2
    by_cases hlt : q < len
    · have HLT := Lib.hid hlt
      have hqi : (q : Int) < (len : Int) := by omega
      obtain ⟨x, hx⟩ := HGET.out q hlt
      obtain ⟨ad, rfl, had, hr⟩ := HR.out.below (BEL.out.mono hB) q x hx
      have c0 := hr.c0
      have c1 := hr.c1
      have c2 := hr.c2
      have c3 := hr.c3
      have c4 := hr.c4
      have c5 := hr.c5
      have HSX := Lib.hid (HST.out q x hx)
      have HH2 := Lib.hid (HH.out q x wr hx)
      clear hr hx had hlt
      generalize hopO x f t k size = ho at *
      generalize S q = so at *
      go_upto_region 7 with (go_at_call 57; refine (HH2.out).mono ?_; rintro e w3 ⟨⟨v, ok, rfl, hv1, hv2⟩, hB3⟩; have HB3 := Lib.hid hB3; have HV1 := Lib.hid hv1; have HV2 := Lib.hid hv2; clear hB3 hv1 hv2)
      cases ok with
      | false =>
        have he := HV2.out rfl
        subst he
        have HSX2 : Hid (S (q + 1) = so) := Lib.hid HSX.out
        clear HSX HV1 HV2
        go_wp2_with fail
        go_roundg (gk - 1)
        case measure => have := HG.out; have := HLT.out; omega
        case rel => exact ⟨q + 1, by have := HG.out; have := HLT.out; omega, by go_num, by rw [HSX2.out], by rw [HSX2.out], BEL.out.trans (HB3.out.mono BEL.out.size)⟩
      | true =>
        have he := HV1.out rfl
        subst he
        clear HV1 HV2
        cases so with
        | none =>
          have HSX2 : Hid (S (q + 1) = some v) := Lib.hid HSX.out
          clear HSX
          dsimp only [Option.getD, Option.isSome]
          go_wp2_with fail
          go_roundg (gk - 1)
          case measure => have := HG.out; have := HLT.out; omega
          case rel => exact ⟨q + 1, by have := HG.out; have := HLT.out; omega, by go_num, by rw [HSX2.out]; rfl, by rw [HSX2.out]; rfl, BEL.out.trans (HB3.out.mono BEL.out.size)⟩
        | some m =>
          dsimp only [Option.getD, Option.isSome]
          by_cases hvm : v < m
          · have HSX2 : Hid (S (q + 1) = some v) := Lib.hid (HSX.out.trans (by unfold comb; dsimp only; rw [if_pos hvm]))
            clear HSX
            go_wp2_with fail
            go_roundg (gk - 1)
            case measure => have := HG.out; have := HLT.out; omega
            case rel => exact ⟨q + 1, by have := HG.out; have := HLT.out; omega, by go_num, by rw [HSX2.out]; rfl, by rw [HSX2.out]; rfl, BEL.out.trans (HB3.out.mono BEL.out.size)⟩
          · have HSX2 : Hid (S (q + 1) = some m) := Lib.hid (HSX.out.trans (by unfold comb; dsimp only; rw [if_neg hvm]))
            clear HSX
            go_wp2_with fail
            go_roundg (gk - 1)
            case measure => have := HG.out; have := HLT.out; omega
            case rel => exact ⟨q + 1, by have := HG.out; have := HLT.out; omega, by go_num, by rw [HSX2.out]; rfl, by rw [HSX2.out]; rfl, BEL.out.trans (HB3.out.mono BEL.out.size)⟩
    · have hqi : ¬ (q : Int) < (len : Int) := by omega
      have HE : Hid (S q = res) := Lib.hid (by rw [show q = len by omega]; exact HALL.out)
      go_wp2_with fail
      refine bodyPost_ret (v := .tuple #[.int .i64 ((S q).getD 0), .bool (S q).isSome]) (by simp [results, Try.results30, go_sem]) rfl ⟨by rw [HE.out], BEL.out⟩
end Q
end Go.Proofs.Ytojflmejkigdiaa
