/-
  The landed isBetween, isValid, hasID, Essential, end.
-/
import Derived.Test.YtobbnbelacncjaaPwVals
import Derived.Test.YtobbnbelacncjaaPwChk
import Derived.Shelf.SlicesQ.IndexFunc
namespace Go.Proofs.Ytobbnbelacncjaa
open Go.RowKit
namespace Pw
open H
set_option linter.unusedVariables false
set_option linter.unusedSimpArgs false
set_option maxRecDepth 100000
set_option maxHeartbeats 1000000 in
theorem pbetween_any (n lo hi : Int) (w : World) : Calls Try.prog 34 #[.int .i64 n, .int .i64 lo, .int .i64 hi] w fun e w' => e = .returned (.bool (decide (lo ≤ n ∧ n ≤ hi))) ∧ w = w' := by
  by_cases h1 : lo ≤ n
  · by_cases h2 : n ≤ hi
    · go_enter Try.func34, Try.ntmps34
      go_wp2_with fail
      go_ret
      exact ⟨by simp [h1, h2], rfl⟩
    · go_enter Try.func34, Try.ntmps34
      go_wp2_with fail
      go_ret
      exact ⟨by simp [h1, h2], rfl⟩
  · have HF := Lib.hid (decide_eq_false (fun h => h1 h.1 : ¬ (lo ≤ n ∧ n ≤ hi)))
    generalize decide (lo ≤ n ∧ n ≤ hi) = r at *
    have h1d : decide (lo ≤ n) = false := decide_eq_false h1
    go_enter Try.func34, Try.ntmps34
    go_wp2_with fail
    all_goals
      go_ret
      exact ⟨by rw [HF.out]; rfl, rfl⟩
set_option maxHeartbeats 2000000 in
theorem pvalid_any (b : Bt) (w : World) : Calls Try.prog 33 #[b.v] w fun e w' => e = .returned (.bool b.ok) ∧ Below w.heap.size w w' := by
  have HW := Lib.hid (fun n lo hi W => pbetween_any n lo hi W)
  obtain ⟨bc, bg, br⟩ := b
  unfold Bt.ok
  dsimp only [Bt.v]
  generalize hbo : decide (0 ≤ br ∧ br ≤ bc) = p at *
  generalize hbo2 : decide (0 ≤ bg ∧ bg ≤ bc) = q at *
  have HP := Lib.hid hbo
  have HQ := Lib.hid hbo2
  have HV : Hid (∀ r : Bool, decide (bc ≤ 2147483647) = r → decide (0 ≤ br ∧ br ≤ bc ∧ bc ≤ 2147483647 ∧ 0 ≤ bg ∧ bg ≤ bc) = (r && (p && q))) := Lib.hid (fun r hr => by
    rw [← hbo, ← hbo2, ← hr, Bool.eq_iff_iff]
    simp only [Bool.and_eq_true, decide_eq_true_eq]
    constructor
    · rintro ⟨h1, h2, h3, h4, h5⟩; exact ⟨h3, ⟨h1, h2⟩, h4, h5⟩
    · rintro ⟨h3, ⟨h1, h2⟩, h4, h5⟩; exact ⟨h1, h2, h3, h4, h5⟩)
  generalize decide (0 ≤ br ∧ br ≤ bc ∧ bc ≤ 2147483647 ∧ 0 ≤ bg ∧ bg ≤ bc) = res at *
  clear hbo hbo2
  by_cases h1 : bc ≤ 2147483647
  · have HR := Lib.hid (HV.out true (decide_eq_true h1))
    clear HV
    cases p
    · go_enter Try.func33, Try.ntmps33
      go_wp2_with (go_at_call 34; refine (HW.out _ _ _ _).mono ?_; rintro e w2 ⟨rfl, rfl⟩; rw [HP.out])
      go_ret
      exact ⟨by rw [HR.out]; rfl, bel1 w _⟩
    · cases q
      · go_enter Try.func33, Try.ntmps33
        go_wp2_with (go_at_call 34; refine (HW.out _ _ _ _).mono ?_; rintro e w2 ⟨rfl, rfl⟩; first | rw [HP.out] | rw [HQ.out])
        go_ret
        exact ⟨by rw [HR.out]; rfl, bel1 w _⟩
      · go_enter Try.func33, Try.ntmps33
        go_wp2_with (go_at_call 34; refine (HW.out _ _ _ _).mono ?_; rintro e w2 ⟨rfl, rfl⟩; first | rw [HP.out] | rw [HQ.out])
        go_ret
        exact ⟨by rw [HR.out]; rfl, bel1 w _⟩
  · have HR := Lib.hid (HV.out false (decide_eq_false h1))
    clear HV
    have h1d : decide (bc ≤ 2147483647) = false := decide_eq_false h1
    go_enter Try.func33, Try.ntmps33
    go_wp2_with (go_at_call 34; refine (HW.out _ _ _ _).mono ?_; rintro e w2 ⟨rfl, rfl⟩)
    go_ret
    exact ⟨by rw [HR.out]; rfl, bel1 w _⟩
set_option maxHeartbeats 1000000 in
theorem phas1_any (x : Ld) (i : Int) (Bi : Nat) (w : World) (hb : w.cell? ⟨Bi, 0, none⟩ = some (.int .i64 i)) : Calls Try.prog 50 #[x.v, bp Bi] w fun e w' => e = .returned (.bool (decide (x.id = i))) ∧ Below w.heap.size w w' := by
  have hb2 := cell_under (.cells #[.int .i64 x.id, .int .i64 x.pow, .int .i64 x.pri, .bool x.ess] 41) hb
  have hlt := World.block_lt_of_cell? _ _ hb
  obtain ⟨xi, xp, xr, xe⟩ := x
  dsimp only [Ld.v] at *
  by_cases h : xi = i
  · subst h
    go_enter Try.func50, Try.ntmps50
    go_wp2_with fail
    go_ret
    exact ⟨by simp, bel1 w _⟩
  · have hd : (xi == i) = false := by simp [h]
    go_enter Try.func50, Try.ntmps50
    go_wp2_with fail
    go_ret
    exact ⟨by simp [h], bel1 w _⟩
set_option maxHeartbeats 2000000 in
theorem phas_any (T : List Ld) (ad : Addr) (cap B : Nat) (i : Int) (w : World) (hsp : ad.spot = none) (hB : B ≤ w.heap.size) (had : ad.block < B) (hlen : T.length ≤ 140737488351232) (hR : RdsLd w B (some ad) T) :
    Calls Try.prog 35 #[.slice (some ad) T.length cap, .int .i64 i] w fun e w' => e = .returned (.bool (T.any fun y => decide (y.id = i))) ∧ Below w.heap.size w w' := by
  have hp : PredBelow Try.prog 50 #[bp w.heap.size] (fun x : Ld => .agg (cells4 x).toArray) (fun y => decide (y.id = i)) (w.alloc (.cells #[.int .i64 i] 3)) := fun W x hb =>
    (phas1_any x i w.heap.size W (below_cell hb (cell_top w _ _ _))).mono fun e w' ⟨h1, h2⟩ => ⟨h1, bt hb h2⟩
  obtain ⟨blk, off, sp⟩ := ad
  obtain rfl : sp = none := hsp
  have hcon := AnyQ.slices_ContainsFunc Try.hasL 4 Try.isAgg41 Try.sizeOf41 cells4 (fun _ => rfl) (fun y => decide (y.id = i)) 50 #[bp w.heap.size] (enters_of Try.func50 (by kernel_rfl) rfl) blk off T.length cap T (w.alloc (.cells #[.int .i64 i] 3)) hp (Nat.le_refl _) (by omega) (by dsimp only at had; simp; omega) (fun j hj r v hv => by
      obtain ⟨ad, e, _, hr⟩ := hR j T[j] (List.getElem?_eq_getElem hj)
      cases e
      have hx : T[j]! = T[j] := by simp [getElem!_pos, hj]
      rw [hx] at hv
      refine cell_under _ ?_
      have ea : (⟨blk, off, none⟩ : Addr).add (j * 4) = ⟨blk, off + j * 4, none⟩ := by unfold Addr.add; split <;> simp_all
      rw [ea] at hr
      match r, hv with
      | 0, hv => obtain rfl := Option.some.inj hv; exact hr.c0
      | 1, hv => obtain rfl := Option.some.inj hv; exact hr.c1
      | 2, hv => obtain rfl := Option.some.inj hv; exact hr.c2
      | 3, hv => obtain rfl := Option.some.inj hv; exact hr.c3
      | r + 4, hv => simp [cells4] at hv)
  rw [List.take_length] at hcon
  have HC : Hid (Calls Try.prog 49 #[.slice (some ⟨blk, off, none⟩) T.length cap, .func (.func 50) #[] #[bp w.heap.size]] (w.alloc (.cells #[.int .i64 i] 3)) fun e w' => e = .returned (.bool (T.any fun y => decide (y.id = i))) ∧ Below (w.alloc (.cells #[.int .i64 i] 3)).heap.size (w.alloc (.cells #[.int .i64 i] 3)) w') := Lib.hid hcon
  clear hcon hp hR had
  generalize (T.any fun y => decide (y.id = i)) = r at *
  generalize T.length = len at *
  go_enter Try.func35, Try.ntmps35
  go_wp2_with (go_at_call 49; refine HC.out.mono ?_; rintro e w2 ⟨rfl, hb⟩)
  go_ret
  exact ⟨rfl, belT _ hb⟩
set_option maxHeartbeats 4000000 in
theorem pend_any (T : List Q.Wn) (A : Option Addr) (cap B : Nat) (w : World) (hB : B ≤ w.heap.size) (hlen : T.length ≤ 140737488351232) (hR : Q.RdsWn w B A T) :
    Calls Try.prog 43 #[.slice A T.length cap] w fun e w' => e = .returned (.int .i64 (endT T 0)) ∧ Below w.heap.size w w' := by
  have HR := Lib.hid hR
  have HGET := Lib.hid (fun k (hk : k < T.length) => (⟨T[k], List.getElem?_eq_getElem hk⟩ : ∃ x, T[k]? = some x))
  have HST := Lib.hid (fun i x (h : T[i]? = some x) => endT_step h)
  have HALL : Hid (endT (T.take T.length) 0 = endT T 0) := Lib.hid (by rw [List.take_length])
  have H0 : Hid (endT (T.take 0) 0 = 0) := Lib.hid rfl
  clear hR
  generalize T.length = len at *
  generalize endT T 0 = res at *
  go_enter Try.func43, Try.ntmps43
  go_wp2_with fail
  go_loopg [3, 8] len (fun g s i wr => ∃ q : Nat, q + g = len ∧ i = .int .i64 (q : Nat) ∧ s = .int .i64 (endT (T.take q) 0) ∧ Below w.heap.size w wr)
  case atStart => exact ⟨0, Nat.zero_add _, rfl, by rw [H0.out], Below.refl _ _⟩
  case round =>
    obtain ⟨q, hg, rfl, rfl, hB2⟩ := hrel
    have BEL := Lib.hid hB2
    have HG := Lib.hid hg
    have hqn : q ≤ len := by omega
    clear hg hB2
    by_cases hlt : q < len
    · have HLT := Lib.hid hlt
      have hqi : (q : Int) < (len : Int) := by omega
      obtain ⟨x, hx⟩ := HGET.out q hlt
      obtain ⟨ad, rfl, had, hr⟩ := HR.out.below (BEL.out.mono hB) q x hx
      have c0 := hr.c0
      have c1 := hr.c1
      have c2 := hr.c2
      have c3 := hr.c3
      have c4 := hr.c4
      have c5 := hr.c5
      have HXX := Lib.hid hx
      have HSX := Lib.hid (HST.out q x hx)
      clear hr hx had hlt
      generalize endT (T.take q) 0 = sq at *
      have HSY : Hid (endT (T.take (q + 1)) 0 = max sq x.un) := Lib.hid (by rw [HSX.out])
      go_wp2_with fail
      all_goals
        go_roundg (gk - 1)
        case measure => have := HG.out; have := HLT.out; omega
        case rel => exact ⟨q + 1, by have := HG.out; have := HLT.out; omega, by go_num, by rw [HSY.out], bt BEL.out (bel1 wr _)⟩
    · obtain rfl : q = len := by omega
      have hqi : ¬ (q : Int) < (q : Int) := by omega
      rw [HALL.out]
      go_wp2_with fail
      go_ret
      exact ⟨rfl, BEL.out⟩
set_option maxHeartbeats 4000000 in
theorem pess_any (T : List Ld) (A : Option Addr) (cap B : Nat) (w : World) (hB : B ≤ w.heap.size) (hlen : T.length ≤ 1000) (hT : ∀ x ∈ T, 0 ≤ x.pow ∧ x.pow ≤ 2147483647) (hR : RdsLd w B A T) :
    Calls Try.prog 16 #[.slice A T.length cap] w fun e w' => e = .returned (.int .i64 (esum T)) ∧ Below w.heap.size w w' := by
  have HR := Lib.hid hR
  have HGET := Lib.hid (fun k (hk : k < T.length) => (⟨T[k], List.getElem?_eq_getElem hk⟩ : ∃ x, T[k]? = some x))
  have HST := Lib.hid (fun i x (h : T[i]? = some x) => esum_step h)
  have HPW := Lib.hid (fun i x (h : T[i]? = some x) => hT x (List.mem_of_getElem? h))
  have HBD : Hid (∀ i, 0 ≤ esum (T.take i) ∧ esum (T.take i) ≤ 2147483647000) := Lib.hid (fun i => by
    have h := esum_bd (L := T.take i) (fun x hx => hT x (List.mem_of_mem_take hx))
    have h2 : (T.take i).length ≤ 1000 := by rw [List.length_take]; omega
    omega)
  have HALL : Hid (esum (T.take T.length) = esum T) := Lib.hid (by rw [List.take_length])
  have H0 : Hid (esum (T.take 0) = 0) := Lib.hid rfl
  clear hR hT
  generalize T.length = len at *
  generalize esum T = res at *
  go_enter Try.func16, Try.ntmps16
  go_wp2_with fail
  go_loopg [3, 8] len (fun g s i wr => ∃ q : Nat, q + g = len ∧ i = .int .i64 (q : Nat) ∧ s = .int .i64 (esum (T.take q)) ∧ Below w.heap.size w wr)
  case atStart => exact ⟨0, Nat.zero_add _, rfl, by rw [H0.out], Below.refl _ _⟩
  case round =>
    obtain ⟨q, hg, rfl, rfl, hB2⟩ := hrel
    have BEL := Lib.hid hB2
    have HG := Lib.hid hg
    have hqn : q ≤ len := by omega
    clear hg hB2
    by_cases hlt : q < len
    · have HLT := Lib.hid hlt
      have hqi : (q : Int) < (len : Int) := by omega
      obtain ⟨x, hx⟩ := HGET.out q hlt
      obtain ⟨ad, rfl, had, hr⟩ := HR.out.below (BEL.out.mono hB) q x hx
      have c0 := hr.c0
      have c1 := hr.c1
      have c2 := hr.c2
      have c3 := hr.c3
      have HXX := Lib.hid hx
      have hbd := HBD.out q
      have hpw := HPW.out q x hx
      have HSX := Lib.hid (HST.out q x hx)
      clear hr hx had hlt
      generalize esum (T.take q) = sq at *
      obtain ⟨xi, xp, xr, xe⟩ := x
      dsimp only at *
      cases xe with
      | false =>
        go_wp2_with fail
        go_roundg (gk - 1)
        case measure => have := HG.out; have := HLT.out; omega
        case rel => exact ⟨q + 1, by have := HG.out; have := HLT.out; omega, by go_num, by rw [HSX.out]; simp, bt BEL.out (bel1 wr _)⟩
      | true =>
        have hwr : IntKind.i64.wrap (sq + xp) = sq + xp := IntWalk.i64_in _ (by omega)
        go_wp2_with fail
        go_roundg (gk - 1)
        case measure => have := HG.out; have := HLT.out; omega
        case rel => exact ⟨q + 1, by have := HG.out; have := HLT.out; omega, by go_num, by rw [HSX.out]; simp, bt BEL.out (bel1 wr _)⟩
    · obtain rfl : q = len := by omega
      have hqi : ¬ (q : Int) < (q : Int) := by omega
      rw [HALL.out]
      go_wp2_with fail
      go_ret
      exact ⟨rfl, BEL.out⟩
theorem spot_of {w : World} {ad : Addr} {v : Value} (h : w.cell? ad = some v) : ad.spot = none := by
  obtain ⟨b, o, s⟩ := ad
  cases s with
  | none => rfl
  | some s =>
    exfalso
    unfold World.cell? at h
    split at h <;> simp_all
theorem rds_spot {w : World} {B : Nat} {ad : Addr} {T : List Ld} (h : RdsLd w B (some ad) T) (hT : 0 < T.length) : ad.spot = none := by
  obtain ⟨ad', e, _, hr⟩ := h 0 T[0] (List.getElem?_eq_getElem hT)
  cases e
  exact spot_of hr.c0
theorem rds_take {w : World} {B : Nat} {A : Option Addr} {T : List Ld} (h : RdsLd w B A T) (k : Nat) : RdsLd w B A (T.take k) := fun j x hx => by
  rw [List.getElem?_take] at hx
  split at hx
  · exact h j x hx
  · cases hx
theorem ck_dup2 {L : List Ld} {i : Nat} {x : Ld} (h0 : ck L i = 0) (hx : L[i]? = some x) (hb : ¬ (x.pow < 0 ∨ 2147483647 < x.pow)) (ha : (L.take i).any (fun y => decide (y.id = x.id)) = true) : ck L L.length = 4 := by
  obtain ⟨y, hy, he⟩ := List.any_eq_true.1 ha
  obtain ⟨k, hk⟩ := List.mem_iff_getElem?.1 hy
  rw [List.getElem?_take] at hk
  split at hk
  · rename_i hki
    exact ck_dup h0 hx hb hki hk (of_decide_eq_true he)
  · cases hk
theorem ck_next2 {L : List Ld} {i : Nat} {x : Ld} (h0 : ck L i = 0) (hx : L[i]? = some x) (hb : ¬ (x.pow < 0 ∨ 2147483647 < x.pow)) (ha : (L.take i).any (fun y => decide (y.id = x.id)) = false) : ck L (i + 1) = 0 := by
  refine ck_next h0 hx hb fun k y hk hy he => ?_
  have h1 : (L.take i).any (fun y => decide (y.id = x.id)) = true := List.any_eq_true.2 ⟨y, List.mem_of_getElem? (i := k) (by rw [List.getElem?_take, if_pos hk]; exact hy), decide_eq_true he⟩
  rw [ha] at h1
  cases h1
end Pw
end Go.Proofs.Ytobbnbelacncjaa
