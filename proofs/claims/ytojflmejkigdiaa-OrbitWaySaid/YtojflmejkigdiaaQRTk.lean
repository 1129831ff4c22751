/-
  The specification's Ticks.
-/
import Derived.Test.YtojflmejkigdiaaQTab
import Derived.Test.YtojflmejkigdiaaQTks
namespace Go.Proofs.Ytojflmejkigdiaa
open Go.RowKit Go.Shelf
namespace Q
open H
set_option linter.unusedVariables false
set_option linter.unusedSimpArgs false
set_option maxRecDepth 100000
theorem tick_step {T : List Wn} {x : Wn} {i : Nat} (k a b f u : Int) (h : T[i]? = some x) : tick (T.take (i + 1)) k a b f u = tick (T.take i) k a b f u + (if pTicks k a b x then cov f u x else 0) := by
  unfold tick
  rw [List.take_add_one, h, Option.toList_some, List.filter_append, List.map_append]
  cases hp : pTicks k a b x with
  | true => rw [List.filter_cons_of_pos hp]; exact sumI_snoc _ _
  | false => rw [List.filter_cons_of_neg (by rw [hp]; exact Bool.false_ne_true)]; simp
theorem tick_bd {T : List Wn} (hT : ∀ x ∈ T, Tok x) (hl : T.length ≤ 1000) (k a b f u : Int) (i : Nat) : 0 ≤ tick (T.take i) k a b f u ∧ tick (T.take i) k a b f u ≤ 1000000000 := by
  unfold tick
  have h := sumI_bd (((T.take i).filter (pTicks k a b)).map (cov f u)) (c := 1000000) (fun z hz => by
    obtain ⟨x, hx, rfl⟩ := List.mem_map.1 hz
    exact cov_bd (hT x (List.mem_of_mem_take (List.mem_filter.1 hx).1)) f u)
  have h2 : (((T.take i).filter (pTicks k a b)).map (cov f u)).length ≤ 1000 := by
    rw [List.length_map]
    refine Nat.le_trans (List.length_filter_le _ _) ?_
    rw [List.length_take]
    omega
  omega
set_option maxHeartbeats 4000000 in
theorem rticks_any (T : List Wn) (A : Option Addr) (cap B : Nat) (k a b f u : Int) (w : World) (hB : B ≤ w.heap.size) (hlen : T.length ≤ 1000) (hT : ∀ x ∈ T, Tok x) (hR : RdsWn w B A T) :
    Calls Try.prog 23 #[.slice A T.length cap, .int .i64 k, .int .i64 a, .int .i64 b, .int .i64 f, .int .i64 u] w fun e w' => e = .returned (.int .i64 (tick T k a b f u)) ∧ Below w.heap.size w w' := by
  have HK := Lib.hid (fun x W => rkey_any x k a b W)
  have HR := Lib.hid hR
  have HGET := Lib.hid (fun k (hk : k < T.length) => (⟨T[k], List.getElem?_eq_getElem hk⟩ : ∃ x, T[k]? = some x))
  have HTK := Lib.hid (fun i x (h : T[i]? = some x) => hT x (List.mem_of_getElem? h))
  have HST := Lib.hid (fun i x (h : T[i]? = some x) => tick_step k a b f u h)
  have HBD := Lib.hid (fun i => tick_bd hT hlen k a b f u i)
  have HALL : Hid (tick (T.take T.length) k a b f u = tick T k a b f u) := Lib.hid (by rw [List.take_length])
  have H0 : Hid (tick (T.take 0) k a b f u = 0) := Lib.hid rfl
  clear hR hT
  generalize T.length = len at *
  generalize tick T k a b f u = res at *
  generalize hS : (fun i => tick (T.take i) k a b f u) = S at *
  have HSE := Lib.hid hS
  replace HST := Lib.hid (fun i x h => (by rw [← HSE.out]; exact HST.out i x h : S (i + 1) = S i + (if pTicks k a b x then cov f u x else 0)))
  replace HBD := Lib.hid (fun i => (by rw [← HSE.out]; exact HBD.out i : 0 ≤ S i ∧ S i ≤ 1000000000))
  replace HALL : Hid (S len = res) := Lib.hid (by rw [← HSE.out]; exact HALL.out)
  replace H0 : Hid (S 0 = 0) := Lib.hid (by rw [← HSE.out]; exact H0.out)
  clear hS HSE
  go_enter Try.func23, Try.ntmps23
  go_wp2_with fail
  go_loopg [13, 14] len (fun g s i wr => ∃ q : Nat, q + g = len ∧ i = .int .i64 (q : Nat) ∧ s = .int .i64 (S q) ∧ Below w.heap.size w wr)
  case atStart => exact ⟨0, Nat.zero_add _, rfl, by rw [H0.out], Below.refl _ _⟩
  case round =>
    obtain ⟨q, hg, rfl, rfl, hB2⟩ := hrel
    have BEL := Lib.hid hB2
    have HG := Lib.hid hg
    have hqn : q ≤ len := by omega
    clear hg hB2
    by_cases hlt : q < len
    · have HLT := Lib.hid hlt
      have hqi : (q : Int) < (len : Int) := by omega
      obtain ⟨x, hx⟩ := HGET.out q hlt
      obtain ⟨ad, rfl, had, hr⟩ := HR.out.below (BEL.out.mono hB) q x hx
      have c0 := hr.c0
      have c1 := hr.c1
      have c2 := hr.c2
      have c3 := hr.c3
      have c4 := hr.c4
      have c5 := hr.c5
      have hst := HST.out q x hx
      have hok := HTK.out q x hx
      have hb := HBD.out q
      have HK2 := Lib.hid (HK.out x)
      have hpk : pTicks k a b x = hk x k a b := rfl
      rw [hpk] at hst
      have h1 := hok.fr
      have h2 := hok.un
      unfold cov at hst
      clear hr hx had hok hpk hlt
      have HS := Lib.hid hst
      clear hst
      generalize S q = s at *
      generalize hk x k a b = r at *
      cases r with
      | false =>
        go_wp2_with (go_at_call 47; refine (HK2.out _).mono ?_; rintro e w3 ⟨rfl, hB3⟩)
        go_roundg (gk - 1)
        case measure => have := HG.out; have := HLT.out; omega
        case rel => exact ⟨q + 1, by have := HG.out; have := HLT.out; omega, by go_num, by rw [HS.out, if_neg Bool.false_ne_true, Int.add_zero], BEL.out.trans (hB3.mono BEL.out.size)⟩
      | true =>
        have m1 : 0 ≤ max f x.fr := by omega
        have m2 : min u x.un ≤ 1000000 := by omega
        by_cases hc : max f x.fr < min u x.un
        · have w1 : IntKind.i64.wrap (s + min u x.un) = s + min u x.un := IntWalk.i64_in _ (by omega)
          have w2 : IntKind.i64.wrap (s + min u x.un - max f x.fr) = s + min u x.un - max f x.fr := IntWalk.i64_in _ (by omega)
          have HC := Lib.hid hc
          go_wp2_with (go_at_call 47; refine (HK2.out _).mono ?_; rintro e w3 ⟨rfl, hB3⟩)
          go_roundg (gk - 1)
          case measure => have := HG.out; have := HLT.out; omega
          case rel => exact ⟨q + 1, by have := HG.out; have := HLT.out; omega, by go_num, by rw [HS.out, if_pos trivial, if_pos (by have := HC.out; omega)]; exact congrArg _ (by omega), BEL.out.trans (hB3.mono BEL.out.size)⟩
        · have HC := Lib.hid hc
          go_wp2_with (go_at_call 47; refine (HK2.out _).mono ?_; rintro e w3 ⟨rfl, hB3⟩)
          go_roundg (gk - 1)
          case measure => have := HG.out; have := HLT.out; omega
          case rel => exact ⟨q + 1, by have := HG.out; have := HLT.out; omega, by go_num, by rw [HS.out, if_pos trivial, if_neg (by have := HC.out; omega), Int.add_zero], BEL.out.trans (hB3.mono BEL.out.size)⟩
    · obtain rfl : q = len := by omega
      clear hlt
      go_wp2_with fail
      go_ret
      exact ⟨by rw [← HALL.out]; rfl, BEL.out⟩
end Q
end Go.Proofs.Ytojflmejkigdiaa
