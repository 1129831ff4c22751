/-
  For all numbers, crafts, ticks and regions, OrbitPlaces returns true: Places returns what the specification's returns over the table that is made from the numbers, holds a region exactly if At returns a window for it, and the chapter's examples hold.
-/
import Derived.Test.YtojflmejkigdiaaQRPl
import Derived.Test.YtojflmejkigdiaaQLiv
import Derived.Deep.DeepCutAuto
import Derived.Deep.RegionHeld3
import Derived.Deep.LoopGhost
import Derived.Deep.QuietTactic
namespace Go.Proofs.Ytojflmejkigdiaa.orbitPlaces
open Go.ChangeShapes Go.WideShapes Go.ChangeAt Go.RowKit
open Go.ChangeMaps (open_string shut_string)
set_option linter.unusedVariables false

set_option maxRecDepth 100000 in
set_option maxHeartbeats 4000000 in
theorem walk (a0 : Option Addr) (n0 c0 : Nat) (z0 : List Int) (a1 : Int) (a2 : Int) (a3 : Int) (w : World) (l0 : z0.length = n0) (cp0 : n0 ≤ c0 ∧ c0 ≤ maxLen) (nz0 : a0 = none → c0 = 0) (rd0 : H.RdI w w.heap.size .i64 a0 z0) (wf0 : ∀ n ∈ z0, (Lit.int .i64 n).wf = true) (r0 : z0.length * 8 ≤ 140737488351232) (w1 : (Lit.int .i64 a1).wf = true) (w2 : (Lit.int .i64 a2).wf = true) (w3 : (Lit.int .i64 a3).wf = true) :
    Calls Try.prog 7 #[.slice a0 n0 c0, .int .i64 a1, .int .i64 a2, .int .i64 a3] w fun e w' => e = .returned (.bool true) ∧ Below w.heap.size w w' := by
  subst l0
  have HL := Lib.hid (fun W => Q.lives_any W)
  have HT : RowKit.Hid (∀ W, RowKit.Below w.heap.size w W → Calls Try.prog 16 #[.slice a0 z0.length c0] W fun e w' => ∃ A2 c2 T, e = .returned (.slice A2 T.length c2) ∧ Q.Good T ∧ T.length ≤ 60 ∧ Q.OwnT w' A2 T c2 ∧ RowKit.Below W.heap.size W w') :=
    Lib.hid (fun W hW => Q.rtable_any z0 a0 c0 w.heap.size W hW.size (by omega) (rd0.below hW) (fun z hz => H.i64_range (wf0 z hz)))
  have HAR : RowKit.Hid (∃ R : Int, ∀ W, Calls Try.prog 17 #[.int .i64 a3, .int .i64 40] W fun e w' => e = .returned (.int .i64 R) ∧ w' = W) := Lib.hid ⟨_, fun W => H.around_any a3 40 (H.i64_range w3).1 (H.i64_range w3).2 (by omega) (by omega) W⟩
  obtain ⟨R, HR⟩ := HAR.out
  replace HR := Lib.hid HR
  clear cp0 nz0 rd0 wf0 r0 w1 w2 w3 HAR
  generalize z0.length = zl at *
  go_enter Try.func7, Try.ntmps7
  go_upto_region 2 with (go_at_call 16; refine (HT.out _ (RowKit.Below.refl _ _)).mono ?_; rintro e w2 ⟨A2, c2, T, rfl, hgd, htl, hO, hB⟩; have HGD := Lib.hid hgd; have HO := Lib.hid hO; have HB2 := Lib.hid hB; have HTL := Lib.hid htl; clear hgd hO hB htl)
  have HP : RowKit.Hid (∀ W, RowKit.Below w2.heap.size w2 W → Calls Try.prog 24 #[.slice A2 T.length c2, .int .i64 a1, .int .i64 a2] W fun e w' => ∃ v, e = .returned v ∧ w'.ownsRow W.heap.size 3 1 v (Q.placs T a1 a2).length (Q.ints (Q.placs T a1 a2)) ∧ RowKit.Below W.heap.size W w') :=
    Lib.hid (fun W hW => Q.pplaces_any T A2 c2 w2.heap.size _ _ W hW.size (by have := HTL.out; omega) (HO.out.rds.below hW))
  have HRP : RowKit.Hid (∀ W, RowKit.Below w2.heap.size w2 W → Calls Try.prog 26 #[.slice A2 T.length c2, .int .i64 a1, .int .i64 a2] W fun e w' => ∃ v, e = .returned v ∧ w'.ownsRow W.heap.size 3 1 v (Q.placs T a1 a2).length (Q.ints (Q.placs T a1 a2)) ∧ RowKit.Below W.heap.size W w') :=
    Lib.hid (fun W hW => by rw [Q.places_eq HGD.out]; exact Q.rplaces_any T A2 c2 w2.heap.size _ _ W hW.size (by have := HTL.out; omega) (HO.out.rds.below hW))
  have HLEN : RowKit.Hid ((Q.placs T a1 a2).length ≤ 140737488351232) := Lib.hid (by rw [Q.places_eq HGD.out]; have := Q.pls_len T a1 a2 32; omega)
  have HSI : RowKit.Hid (∀ W A A' c c', H.RdI W W.heap.size .i64 A (Q.placs T a1 a2) → H.RdI W W.heap.size .i64 A' (Q.placs T a1 a2) → Calls Try.prog 25 #[.slice A (Q.placs T a1 a2).length c, .slice A' (Q.placs T a1 a2).length c'] W fun e w' => e = .returned (.bool true) ∧ RowKit.Below W.heap.size W w') :=
    Lib.hid (fun W A A' c c' h1 h2 => by have h := Q.sameI_any A A' c c' _ _ W HLEN.out HLEN.out h1 h2; simpa using h)
  have HH : RowKit.Hid (∀ W A c, H.RdI W W.heap.size .i64 A (Q.placs T a1 a2) → Calls Try.prog 27 #[.slice A (Q.placs T a1 a2).length c, .int .i64 R] W fun e w' => e = .returned (.bool (T.find? (Q.pAt 4 a1 R a2)).isSome) ∧ w' = W) :=
    Lib.hid (fun W A c h1 => by rw [← Q.has_open]; exact Q.has_any A c _ R W HLEN.out h1)
  have HA : RowKit.Hid (∀ W, RowKit.Below w2.heap.size w2 W → Calls Try.prog 18 #[.slice A2 T.length c2, .int .i64 4, .int .i64 a1, .int .i64 R, .int .i64 a2] W fun e w' => e = .returned (.tuple #[((T.find? (Q.pAt 4 a1 R a2)).getD Q.zw).v, .bool (T.find? (Q.pAt 4 a1 R a2)).isSome]) ∧ RowKit.Below W.heap.size W w') :=
    Lib.hid (fun W hW => Q.pAt_any T A2 c2 w2.heap.size _ _ _ _ W hW.size (by have := HTL.out; omega) (HO.out.rds.below hW))
  clear HLEN
  generalize (T.find? (Q.pAt 4 a1 R a2)).getD Q.zw = y at *
  generalize (T.find? (Q.pAt 4 a1 R a2)).isSome = r at *
  generalize Q.placs T a1 a2 = P at *
  generalize T.length = tl at *
  go_wp2_with (first
    | (go_at_call 24; with_reducible refine (HP.out _ (RowKit.Below.refl _ _)).mono ?_; rintro e w3 ⟨v, rfl, hO3, hB3⟩; obtain ⟨A3, c3, rfl⟩ := H.own_shape hO3; have R3 := H.own_RdI hO3; clear hO3)
    | (go_at_call 26; with_reducible refine (HRP.out _ hB3).mono ?_; rintro e w4 ⟨v, rfl, hO4, hB4⟩; obtain ⟨A4, c4, rfl⟩ := H.own_shape hO4; have R4 := H.own_RdI hO4; have R34 := (R3.below hB4).more hB4.size; have P4 := Q.bt hB3 hB4; clear hO4)
    | (go_at_call 25; with_reducible refine (HSI.out _ _ _ _ _ R34 R4).mono ?_; rintro e w5 ⟨rfl, hB5⟩; have R35 := (R34.below hB5).more hB5.size; have P5 := Q.bt P4 hB5)
    | (go_at_call 17; with_reducible refine (HR.out _).mono ?_; rintro e w6 ⟨rfl, hw⟩; rw [hw]; clear hw w6)
    | (go_at_call 18; with_reducible refine (HA.out _ P5).mono ?_; rintro e w7 ⟨rfl, hB7⟩; have P7 := Q.bt P5 hB7; have S7 := Q.bt P7 (Q.bel1 w7 (.cells #[.int .i64 y.kind, .int .i64 y.a, .int .i64 y.b, .int .i64 y.fr, .int .i64 y.un, .int .i64 y.rate] 31)); have B7 := Q.bt hB7 (Q.bel1 w7 (.cells #[.int .i64 y.kind, .int .i64 y.a, .int .i64 y.b, .int .i64 y.fr, .int .i64 y.un, .int .i64 y.rate] 31)); have R37 := (R35.below B7).more B7.size)
    | (go_at_call 27; with_reducible refine (HH.out _ _ _ R37).mono ?_; rintro e w8 ⟨rfl, hw⟩; rw [hw]; clear hw w8)
    | (go_at_call 15; refine (HL.out _).mono ?_; rintro e w9 ⟨rfl, hB9⟩; have P9 := Q.bt S7 hB9; clear hB9))
  go_ret
  exact ⟨rfl, HB2.out.trans (P9.mono HB2.out.size)⟩

set_option maxRecDepth 100000 in
theorem lifted (os : Os) (started : os.Started) (H0 : Type) (enc : TypeId × Value → H0) :
    ReturnsInHanded {} Try.checked os 7 .any (Rows.orbitPlacesSpec.pre6 enc Try.prog Try.f7 Rows.orbitPlacesRow.domain false) (Rows.orbitPlacesSpec.post enc Try.prog Try.f7 false true false false) := by
  refine returnsInHanded_of_change_sized (C := Try.checked) Go.Proofs.Ytojflmejkigdiaa.O.own started (by kernel_rfl) Try.func7
    (ChangeSpec.witness6 (enc := enc) (C := Try.checked) false ⟨#[], #[.slice none 0 0, .int .i64 0, .int .i64 0, .int .i64 0], []⟩ 8 (by kernel_rfl) (by kernel_rfl) (by kernel_rfl) (by kernel_rfl)) ?_
  intro W base args ds gs before hval0 hW hcnd hsz0 _
  have hsz : (DataW.weightsEach Try.prog (Try.f7.params.toList ++ Rows.orbitPlacesSpec.plain.varTypes Try.prog) (ds ++ gs)).all (· ≤ reachBytes) = true := hsz0
  clear hsz0
  have hval : ∀ (j : Nat) t v, Try.f7.params[j]? = some t → args[j]? = some v → Value.okWide Try.prog W .any base t v := hval0
  have hW' := hW
  obtain ⟨p, q, hA0, hV, rfl, hfz, hnd⟩ := hW
  have hA : DataW.TrodAll enc Try.prog W 0 (fun _ => true) true Try.f7.params.toList args.toList ds p := hA0
  rw [Try.params7] at hA hval hsz
  obtain ⟨v0, vs0, d0, ds0, p0, q0, hargs, rfl, rfl, h0, r0⟩ := trodAll_cons hA
  obtain ⟨v1, vs1, d1, ds1, p1, q1, rfl, rfl, rfl, h1, r1⟩ := trodAll_cons r0
  obtain ⟨v2, vs2, d2, ds2, p2, q2, rfl, rfl, rfl, h2, r2⟩ := trodAll_cons r1
  obtain ⟨v3, vs3, d3, ds3, p3, q3, rfl, rfl, rfl, h3, r3⟩ := trodAll_cons r2
  obtain ⟨rfl, rfl, rfl⟩ := trodAll_nil r3
  obtain rfl : args = #[v0, v1, v2, v3] := by cases args; simp_all
  obtain ⟨rfl, rfl⟩ := trodVars_none hV
  obtain ⟨a0, n0, c0, rfl⟩ := okWide_slice Try.underlying27 (hval 0 27 v0 rfl rfl)
  have k0 := h0
  have lt0 : ∀ x ∈ p0, x.block < W.heap.size := by obtain ⟨m, hm⟩ := k0; exact DataW.trod_lt m _ _ _ hm
  obtain ⟨z0, l0, cp0, cq0, nz0, rd0, wf0, bj0⟩ := Go.Proofs.Ytojflmejkigdiaa.O.open_isT Try.underlying27 Try.underlying3 (by kernel_rfl) h0
  have el0 := Go.Proofs.Ytojflmejkigdiaa.O.open_el Try.underlying27 Try.underlying3 (by kernel_rfl) k0
  obtain ⟨a1, rfl, rfl, rfl, w1⟩ := open_int Try.underlying3 (hval 1 3 v1 rfl rfl) h1
  obtain ⟨a2, rfl, rfl, rfl, w2⟩ := open_int Try.underlying3 (hval 2 3 v2 rfl rfl) h2
  obtain ⟨a3, rfl, rfl, rfl, w3⟩ := open_int Try.underlying3 (hval 3 3 v3 rfl rfl) h3
  clear hA0 hval0
  have r0 : z0.length * 8 ≤ 140737488351232 := by
    rcases el0 with h | ⟨es, sp, h, hle⟩
    · omega
    · have hr := sized_slice hsz (j := 0) (t := 27) (e := 3) (elems := es) (spare := sp) rfl (by simp [h]) Try.underlying27
      rw [show Try.prog.bytesOf 3 = 8 from by kernel_rfl] at hr
      simp only [reachBytes] at hr
      omega
  refine (walk a0 n0 c0 z0 a1 a2 a3 W l0 ⟨cp0, cq0⟩ nz0 rd0 wf0 r0 w1 w2 w3).mono fun e W' ⟨he, bel⟩ => ?_
  subst he
  exact ⟨_, rfl, _, _, _, [], _, [], hW', trodAll_mk1 (shut_bool Try.underlying4 _), (trodAll_cons_mk (Below.trod Go.Proofs.Ytojflmejkigdiaa.O.laidOut (by kernel_rfl) (of_decide_eq_true (by kernel_rfl)) k0 bel lt0) (trodAll_cons_mk (shut_int Try.underlying3 w1) (trodAll_cons_mk (shut_int Try.underlying3 w2) (trodAll_cons_mk (shut_int Try.underlying3 w3) trodAll_mk0)))), rfl, bel.frame _, fun h => by cases h⟩

/-- ████ THE STATEMENT ████ -/
theorem proved : Rows.OrbitPlacesSaid :=
  OpenClaim.holds_of_wide 7 Try.f7 rfl rfl rfl rfl rfl rfl rfl ⟨rfl, rfl, rfl, rfl, rfl⟩ rfl rfl rfl rfl rfl (by kernel_rfl) Try.func7 (by kernel_rfl)
    (of_decide_eq_true (by kernel_rfl)) (by unfold Func.isWrapper; first | (rw [if_pos (by decide +kernel)]; kernel_rfl) | (rw [if_neg (by decide +kernel)]; exact ⟨rfl, rfl⟩))
    (fun os started H0 enc _ => lifted os started H0 enc)
end Go.Proofs.Ytojflmejkigdiaa.orbitPlaces
