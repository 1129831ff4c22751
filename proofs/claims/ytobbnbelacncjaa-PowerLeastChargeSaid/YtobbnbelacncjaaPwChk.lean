/-
  perigeeref10: Check.
-/
import Derived.Test.YtobbnbelacncjaaPwR1
namespace Go.Proofs.Ytobbnbelacncjaa
open Go.RowKit
namespace Pw
open H
set_option linter.unusedVariables false
set_option linter.unusedSimpArgs false
set_option maxRecDepth 100000
/-- What is found of the first loads. -/
def ck (L : List Ld) : Nat → Int
  | 0 => 0
  | i + 1 => if ck L i = 0 then (match L[i]? with
    | none => 0
    | some x => if x.pow < 0 ∨ 2147483647 < x.pow then 5 else if (L.take i).any (fun y => decide (y.id = x.id)) = true then 4 else 0) else ck L i
def chkB (b : Bt) (L : List Ld) : Int := if b.ok = true then (if L.length > 64 then 2 else ck L L.length) else 5
theorem ck_stay {L : List Ld} {i : Nat} (h : ck L i ≠ 0) : ∀ j, ck L (i + j) = ck L i
  | 0 => rfl
  | j + 1 => by
    have ih := ck_stay h j
    show ck L ((i + j) + 1) = ck L i
    conv => lhs; unfold ck
    rw [ih, if_neg h]
theorem ck_range {L : List Ld} {i : Nat} {x : Ld} (h0 : ck L i = 0) (hx : L[i]? = some x) (hb : x.pow < 0 ∨ 2147483647 < x.pow) : ck L L.length = 5 := by
  have h1 : ck L (i + 1) = 5 := by unfold ck; rw [if_pos h0, hx]; dsimp only; rw [if_pos hb]
  have hl := (List.getElem?_eq_some_iff.1 hx).1
  have h2 := ck_stay (i := i + 1) (by rw [h1]; decide) (L.length - (i + 1)) (L := L)
  rw [show i + 1 + (L.length - (i + 1)) = L.length by omega] at h2
  rw [h2, h1]
theorem ck_dup {L : List Ld} {i k : Nat} {x y : Ld} (h0 : ck L i = 0) (hx : L[i]? = some x) (hb : ¬ (x.pow < 0 ∨ 2147483647 < x.pow)) (hk : k < i) (hy : L[k]? = some y) (he : y.id = x.id) : ck L L.length = 4 := by
  have ha : (L.take i).any (fun y => decide (y.id = x.id)) = true := by
    rw [List.any_eq_true]
    exact ⟨y, List.mem_of_getElem? (i := k) (by rw [List.getElem?_take, if_pos hk]; exact hy), decide_eq_true he⟩
  have h1 : ck L (i + 1) = 4 := by unfold ck; rw [if_pos h0, hx]; dsimp only; rw [if_neg hb, if_pos ha]
  have hl := (List.getElem?_eq_some_iff.1 hx).1
  have h2 := ck_stay (i := i + 1) (by rw [h1]; decide) (L.length - (i + 1)) (L := L)
  rw [show i + 1 + (L.length - (i + 1)) = L.length by omega] at h2
  rw [h2, h1]
theorem ck_next {L : List Ld} {i : Nat} {x : Ld} (h0 : ck L i = 0) (hx : L[i]? = some x) (hb : ¬ (x.pow < 0 ∨ 2147483647 < x.pow)) (hn : ∀ k y, k < i → L[k]? = some y → ¬ y.id = x.id) : ck L (i + 1) = 0 := by
  unfold ck
  rw [if_pos h0, hx]
  dsimp only
  rw [if_neg hb, if_neg]
  rw [List.any_eq_true]
  rintro ⟨y, hy, he⟩
  obtain ⟨k, hk⟩ := List.mem_iff_getElem?.1 hy
  rw [List.getElem?_take] at hk
  split at hk
  · rename_i hki
    exact hn k y hki hk (of_decide_eq_true he)
  · cases hk
set_option maxHeartbeats 8000000 in
theorem rcheck_any (b : Bt) (T : List Ld) (A : Option Addr) (cap B : Nat) (w : World) (hB : B ≤ w.heap.size) (hlen : T.length ≤ 140737488351232) (hR : RdsLd w B A T) :
    Calls Try.prog 15 #[b.v, .slice A T.length cap] w fun e w' => e = .returned (.int .i64 (chkB b T)) ∧ Below w.heap.size w w' := by
  have HV := Lib.hid (fun W => rvalid_any b W)
  have HR := Lib.hid hR
  have HGET := Lib.hid (fun k (hk : k < T.length) => (⟨T[k], List.getElem?_eq_getElem hk⟩ : ∃ x, T[k]? = some x))
  have HRA : Hid (∀ (i : Nat) (x : Ld), ck T i = 0 → T[i]? = some x → (x.pow < 0 ∨ 2147483647 < x.pow) → ck T T.length = 5) := Lib.hid (fun i x h1 h2 h3 => ck_range h1 h2 h3)
  have HDU : Hid (∀ (i k : Nat) (x y : Ld), ck T i = 0 → T[i]? = some x → ¬ (x.pow < 0 ∨ 2147483647 < x.pow) → k < i → T[k]? = some y → y.id = x.id → ck T T.length = 4) := Lib.hid (fun i k x y h1 h2 h3 h4 h5 h6 => ck_dup h1 h2 h3 h4 h5 h6)
  have HNX : Hid (∀ (i : Nat) (x : Ld), ck T i = 0 → T[i]? = some x → ¬ (x.pow < 0 ∨ 2147483647 < x.pow) → (∀ k y, k < i → T[k]? = some y → ¬ y.id = x.id) → ck T (i + 1) = 0) := Lib.hid (fun i x h1 h2 h3 h4 => ck_next h1 h2 h3 h4)
  have H0 : Hid (ck T 0 = 0) := Lib.hid rfl
  have hdef : chkB b T = if b.ok = true then (if T.length > 64 then 2 else ck T T.length) else 5 := rfl
  rw [hdef]
  clear hR hdef
  generalize T.length = len at *
  cases hok : b.ok with
  | false =>
    rw [hok] at HV
    rw [if_neg (by simp)]
    clear hok
    go_enter Try.func15, Try.ntmps15
    go_wp2_with (go_at_call 36; with_reducible refine (HV.out _).mono ?_; rintro e w3 ⟨rfl, hB3⟩)
    go_ret
    exact ⟨rfl, belT _ hB3⟩
  | true =>
    rw [hok] at HV
    rw [if_pos rfl]
    clear hok
    by_cases h64 : len > 64
    · rw [if_pos h64]
      have hi64 : (64 : Int) < (len : Int) := by omega
      go_enter Try.func15, Try.ntmps15
      go_wp2_with (go_at_call 36; with_reducible refine (HV.out _).mono ?_; rintro e w3 ⟨rfl, hB3⟩)
      go_ret
      exact ⟨rfl, belT _ hB3⟩
    · rw [if_neg h64]
      have hi64 : ¬ (64 : Int) < (len : Int) := by omega
      go_enter Try.func15, Try.ntmps15
      go_wp2_with (go_at_call 36; with_reducible refine (HV.out _).mono ?_; rintro e w3 ⟨rfl, hB3⟩; have HB3 := Lib.hid (belT _ hB3); clear hB3)
      go_loopg [6] len (fun g i wr => ∃ q : Nat, q + g = len ∧ i = .int .i64 (q : Nat) ∧ Hid (ck T q = 0) ∧ Below w.heap.size w wr)
      case atStart => exact ⟨0, Nat.zero_add _, rfl, H0, HB3.out⟩
      case round =>
        obtain ⟨q, hg, rfl, HC, hB2⟩ := hrel
        have BEL := Lib.hid hB2
        have HG := Lib.hid hg
        have hqn : q ≤ len := by omega
        clear hg hB2
        by_cases hlt : q < len
        · have HLT := Lib.hid hlt
          have hqi : (q : Int) < (len : Int) := by omega
          obtain ⟨x, hx⟩ := HGET.out q hlt
          obtain ⟨ad, rfl, had, hr⟩ := HR.out.below (BEL.out.mono hB) q x hx
          have c0 := hr.c0
          have c1 := hr.c1
          have HX := Lib.hid hx
          clear hx had hlt hr
          by_cases hn1 : x.pow < 0
          · have HE := Lib.hid (HRA.out q x HC.out HX.out (.inl hn1))
            go_wp2_with fail
            go_ret
            exact ⟨by rw [HE.out]; rfl, BEL.out⟩
          · by_cases hn2 : 2147483647 < x.pow
            · have HE := Lib.hid (HRA.out q x HC.out HX.out (.inr hn2))
              go_wp2_with fail
              go_ret
              exact ⟨by rw [HE.out]; rfl, BEL.out⟩
            · have HNB : Hid (¬ (x.pow < 0 ∨ 2147483647 < x.pow)) := Lib.hid (by omega)
              obtain ⟨g2, hg2e⟩ : ∃ g2, g2 = gk := ⟨_, rfl⟩
              have HGG : Hid (q + g2 = len) := Lib.hid (by rw [hg2e]; exact HG.out)
              have HGE := Lib.hid hg2e
              clear hg2e HG
              go_wp2_with fail
              go_loopg [7] q (fun g i wr2 => ∃ k : Nat, k + g = q ∧ i = .int .i64 (k : Nat) ∧ Hid (∀ j y, j < k → T[j]? = some y → ¬ y.id = x.id) ∧ Below w.heap.size w wr2)
              case atStart => exact ⟨0, Nat.zero_add _, rfl, Lib.hid (fun j y hj => absurd hj (Nat.not_lt_zero _)), BEL.out⟩
              case round =>
                clear c0 c1
                obtain ⟨k, hg, rfl, HK, hB4⟩ := hrel
                have BEL4 := Lib.hid hB4
                have HG := Lib.hid hg
                have hkq : k ≤ q := by omega
                clear hg hB4
                by_cases hlk : k < q
                · have HLK := Lib.hid hlk
                  have hki : (k : Int) < (q : Int) := by omega
                  have hkl : (k : Int) < (len : Int) := by omega
                  obtain ⟨y, hy⟩ := HGET.out k (by omega)
                  have HY := Lib.hid hy
                  have hrs := HR.out.below (BEL4.out.mono hB)
                  obtain ⟨ad', e1, _, hr1⟩ := hrs q x HX.out
                  obtain ⟨ad2, e2, _, hr2⟩ := hrs k y hy
                  obtain rfl := Option.some.inj e1
                  obtain rfl := Option.some.inj e2
                  have c0 := hr1.c0
                  have d0 := hr2.c0
                  have hklen : k < len := by omega
                  have hqlen : q < len := by omega
                  clear hr1 hr2 hrs hy hlk
                  by_cases hid : y.id = x.id
                  · have HE := Lib.hid (HDU.out q k x y HC.out HX.out HNB.out HLK.out HY.out hid)
                    go_wp2_with fail
                    go_region
                    all_goals go_wp2_with fail
                    all_goals go_ret
                    all_goals exact ⟨by rw [HE.out]; rfl, BEL4.out.drew⟩
                  · have HNI := Lib.hid hid
                    go_wp2_with fail
                    go_region
                    all_goals go_wp2_with fail
                    all_goals go_roundg (gk - 1)
                    case measure => have := HG.out; have := HLK.out; omega
                    case rel => exact ⟨k + 1, by have := HG.out; have := HLK.out; omega, by go_num, Lib.hid (fun j z hj hz => by
                      rcases Nat.lt_or_ge j k with h | h
                      · exact HK.out j z h hz
                      · obtain rfl : j = k := by omega
                        rw [HY.out] at hz
                        rw [← Option.some.inj hz]
                        exact HNI.out), BEL4.out.drew⟩
                · have hki : ¬ (k : Int) < (q : Int) := by omega
                  have HE := Lib.hid (HNX.out q x HC.out HX.out HNB.out (fun j z hj hz => HK.out j z (by omega) hz))
                  go_wp2_with fail
                  go_roundg (g2 - 1)
                  case measure => have := HGG.out; have := HGE.out; have := HLT.out; omega
                  case rel => exact ⟨q + 1, by have := HGG.out; have := HLT.out; omega, by go_num, HE, BEL4.out⟩
        · obtain rfl : q = len := by omega
          have hqi : ¬ (q : Int) < (q : Int) := by omega
          go_wp2_with fail
          go_ret
          exact ⟨by rw [HC.out]; rfl, BEL.out⟩
end Pw
end Go.Proofs.Ytobbnbelacncjaa
