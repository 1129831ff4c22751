/-
  For all numbers and places, OrbitTables returns true: Check accepts the table that is made from the numbers, refuses it once two neighbours are exchanged, and the chapter's examples hold.
-/
import Derived.Test.YtojflmejkigdiaaQSwp
import Derived.Test.YtojflmejkigdiaaQLiv
import Derived.Deep.DeepCutAuto
import Derived.Deep.RegionHeld3
import Derived.Deep.LoopGhost
import Derived.Deep.QuietTactic
namespace Go.Proofs.Ytojflmejkigdiaa.orbitTables
open Go.ChangeShapes Go.WideShapes Go.ChangeAt Go.RowKit
open Go.ChangeMaps (open_string shut_string)
set_option linter.unusedVariables false

set_option maxRecDepth 100000 in
set_option maxHeartbeats 4000000 in
theorem walk (a0 : Option Addr) (n0 c0 : Nat) (z0 : List Int) (a1 : Int) (w : World) (l0 : z0.length = n0) (cp0 : n0 ≤ c0 ∧ c0 ≤ maxLen) (nz0 : a0 = none → c0 = 0) (rd0 : H.RdI w w.heap.size .i64 a0 z0) (wf0 : ∀ n ∈ z0, (Lit.int .i64 n).wf = true) (r0 : z0.length * 8 ≤ 140737488351232) (w1 : (Lit.int .i64 a1).wf = true) :
    Calls Try.prog 4 #[.slice a0 n0 c0, .int .i64 a1] w fun e w' => e = .returned (.bool true) ∧ Below w.heap.size w w' := by
  subst l0
  have HL := Lib.hid (fun W => Q.lives_any W)
  have HT : RowKit.Hid (∀ W, RowKit.Below w.heap.size w W → Calls Try.prog 16 #[.slice a0 z0.length c0] W fun e w' => ∃ A2 c2 T, e = .returned (.slice A2 T.length c2) ∧ Q.Good T ∧ T.length ≤ 60 ∧ Q.OwnT w' A2 T c2 ∧ RowKit.Below W.heap.size W w' ∧ (∀ ad, A2 = some ad → W.heap.size ≤ ad.block)) :=
    Lib.hid (fun W hW => Q.rtable_own z0 a0 c0 w.heap.size W hW.size (by omega) (rd0.below hW) (fun z hz => H.i64_range (wf0 z hz)))
  have HAT : RowKit.Hid (∀ m : Nat, 2 ≤ m → m ≤ 60 → ∃ k : Nat, k + 1 < m ∧ ∀ W, Calls Try.prog 17 #[.int .i64 a1, .int .i64 ((m : Int) - 1)] W fun e w' => e = .returned (.int .i64 (k : Int)) ∧ w' = W) := Lib.hid (fun m h1 h2 => by
    have hb := H.around_lt a1 (m := (m : Int) - 1) (by omega)
    refine ⟨(H.around a1 ((m : Int) - 1)).toNat, by omega, fun W => ?_⟩
    have h := H.around_any a1 ((m : Int) - 1) (H.i64_range w1).1 (H.i64_range w1).2 (by omega) (by omega) W
    rwa [show (((H.around a1 ((m : Int) - 1)).toNat : Nat) : Int) = H.around a1 ((m : Int) - 1) by omega])
  clear cp0 nz0 rd0 wf0 r0 w1
  generalize z0.length = zl at *
  go_enter Try.func4, Try.ntmps4
  go_upto_region 2 with (go_at_call 16; refine (HT.out _ (RowKit.Below.refl _ _)).mono ?_; rintro e w2 ⟨A2, c2, T, rfl, hgd, htl, hO, hB, hF⟩; have HGD := Lib.hid hgd; have HO := Lib.hid hO; have HB2 := Lib.hid hB; have HTL := Lib.hid htl; have HF := Lib.hid hF; clear hgd hO hB htl hF)
  have HC0 : RowKit.Hid (∀ W, RowKit.Below w2.heap.size w2 W → Calls Try.prog 13 #[.slice A2 T.length c2] W fun e w' => e = .returned (.int .i64 0) ∧ RowKit.Below W.heap.size W w') := Lib.hid (fun W hW => by have h2 := Q.pcheck_all T A2 c2 w2.heap.size W hW.size HO.out.cap (HO.out.rds.below hW); rwa [Q.chk_good HGD.out (by have := HTL.out; omega)] at h2)
  by_cases h0 : T.length < 2
  · have hi0 : (T.length : Int) < 2 := by omega
    generalize T.length = tl at *
    go_wp2_with (first
      | (go_at_call 13; with_reducible refine (HC0.out _ (RowKit.Below.refl _ _)).mono ?_; rintro e w3 ⟨rfl, hB3⟩)
      | (go_at_call 15; refine (HL.out _).mono ?_; rintro e w4 ⟨rfl, hB4⟩; have P4 := Q.bt hB3 hB4))
    go_ret
    exact ⟨rfl, HB2.out.trans (P4.mono HB2.out.size)⟩
  · have hi0 : ¬ (T.length : Int) < 2 := by omega
    have hm1 : IntKind.i64.wrap ((T.length : Int) - 1) = (T.length : Int) - 1 := IntWalk.i64_in _ (by have := HTL.out; omega)
    obtain ⟨k, hk, HAT2⟩ := HAT.out T.length (by omega) HTL.out
    replace HAT2 := Lib.hid HAT2
    obtain ⟨g, hA, hlc, hcm, hg, hR6⟩ : ∃ g, A2 = some ⟨g, 0, none⟩ ∧ T.length ≤ c2 ∧ c2 ≤ maxLen ∧ g < w2.heap.size ∧ Q.R6 w2 g T := by
      rcases HO.out with ⟨_, h, _⟩ | h
      · rw [h] at h0; exact absurd (by simp) h0
      · exact h
    have HFG : RowKit.Hid (w.heap.size ≤ g) := Lib.hid (HF.out _ hA)
    obtain ⟨ad, had⟩ : ∃ ad : Addr, ad = ⟨g, 0, none⟩ := ⟨_, rfl⟩
    rw [← had] at hA
    have HAD := Lib.hid had
    subst hA
    obtain ⟨x, hx⟩ : ∃ x, T[k]? = some x := ⟨_, List.getElem?_eq_getElem (by omega)⟩
    obtain ⟨y, hy⟩ : ∃ y, T[k + 1]? = some y := ⟨_, List.getElem?_eq_getElem hk⟩
    have HSC := Lib.hid (Q.swp_chk HGD.out (by have := HTL.out; omega) hx hy)
    have hkl : k < T.length := by omega
    have HW3 := Lib.hid (fun (W : World) (h : Q.R6 W g T) => h.swp hk x y)
    have hcx := fun i (hi : i < 6) => Q.flat6_get T k i x hx hi
    have hcy := fun i (hi : i < 6) => Q.flat6_get T (k + 1) i y hy hi
    have HR6 := Lib.hid hR6
    have HLEN : RowKit.Hid ((Q.swp T k x y).length = T.length) := Lib.hid (by simp [Q.swp])
    have HCC := Lib.hid (And.intro hlc hcm)
    obtain ⟨p, hp⟩ : ∃ p : Nat, p = k + 1 := ⟨_, rfl⟩
    have HPO := Lib.hid hp
    have hw : IntKind.i64.wrap ((k : Int) + 1) = (p : Int) := by rw [hp]; exact (IntWalk.i64_in _ (by have := HTL.out; omega)).trans (by simp)
    rw [← hp] at hcy HW3 hk
    have e1 : ad.add (k * 6) = ⟨g, k * 6, none⟩ := by rw [had, H.ad_add]
    have e2 : ad.add (p * 6) = ⟨g, p * 6, none⟩ := by rw [had, H.ad_add]
    have x0 := hR6.c _ _ (hcx 0 (by omega))
    have x1 := hR6.c _ _ (hcx 1 (by omega))
    have x2 := hR6.c _ _ (hcx 2 (by omega))
    have x3 := hR6.c _ _ (hcx 3 (by omega))
    have x4 := hR6.c _ _ (hcx 4 (by omega))
    have x5 := hR6.c _ _ (hcx 5 (by omega))
    have y0 := hR6.c _ _ (hcy 0 (by omega))
    have y1 := hR6.c _ _ (hcy 1 (by omega))
    have y2 := hR6.c _ _ (hcy 2 (by omega))
    have y3 := hR6.c _ _ (hcy 3 (by omega))
    have y4 := hR6.c _ _ (hcy 4 (by omega))
    have y5 := hR6.c _ _ (hcy 5 (by omega))
    obtain ⟨cs, ct, hob⟩ := hR6.hp
    have HOB := Lib.hid hob
    clear hcx hcy hob hx hy hR6 had hp hlc hcm hg HAT HO HGD HF
    generalize hlq : T.length = tl at *
    have HLQ := Lib.hid hlq
    have j1 : (k : Int) < (tl : Int) := by omega
    have j2 : (p : Int) < (tl : Int) := by omega
    clear hlq
    go_upto_region 7 with (first
      | (go_at_call 13; with_reducible refine (HC0.out _ (RowKit.Below.refl _ _)).mono ?_; rintro e w3 ⟨rfl, hB3⟩; have HB3 := Lib.hid hB3; have x0 := Q.below_cell hB3 x0; have x1 := Q.below_cell hB3 x1; have x2 := Q.below_cell hB3 x2; have x3 := Q.below_cell hB3 x3; have x4 := Q.below_cell hB3 x4; have x5 := Q.below_cell hB3 x5; have y0 := Q.below_cell hB3 y0; have y1 := Q.below_cell hB3 y1; have y2 := Q.below_cell hB3 y2; have y3 := Q.below_cell hB3 y3; have y4 := Q.below_cell hB3 y4; have y5 := Q.below_cell hB3 y5; have hf := Q.frz_obj (Q.heap_keep hB3 HOB.out); have hR3 := HR6.out.below hB3; have HR3 := Lib.hid hR3; clear hB3 hR3)
      | (go_at_call 17; with_reducible refine (HAT2.out _).mono ?_; rintro e w3 ⟨rfl, hw⟩; rw [hw]; clear hw w3))
    clear HAT2 HC0
    have fx0 := hf (k * 6 + 0)
    have fx1 := hf (k * 6 + 1)
    have fx2 := hf (k * 6 + 2)
    have fx3 := hf (k * 6 + 3)
    have fx4 := hf (k * 6 + 4)
    have fx5 := hf (k * 6 + 5)
    have fy0 := hf (p * 6 + 0)
    have fy1 := hf (p * 6 + 1)
    have fy2 := hf (p * 6 + 2)
    have fy3 := hf (p * 6 + 3)
    have fy4 := hf (p * 6 + 4)
    have fy5 := hf (p * 6 + 5)
    rw [Nat.add_zero] at fx0 fy0 x0 y0
    clear hf
    have hkp : ¬ k = p := by have := HPO.out; omega
    have hpk : ¬ p = k := by have := HPO.out; omega
    have HR7 := Lib.hid (HW3.out _ HR3.out)
    have HPB : RowKit.Hid (RowKit.Below w.heap.size w (Q.put6o (Q.put6o w3 g (k * 6) y) g (p * 6) x)) := Lib.hid (by
      have h1 : RowKit.Below w.heap.size w w3 := HB2.out.trans (HB3.out.mono HB2.out.size)
      exact (h1.trans (Q.put6o_below (k * 6) y HFG.out)).trans (Q.put6o_below (p * 6) x HFG.out))
    have HCE : RowKit.Hid (∀ (W : World), Q.R6 W g (Q.swp T k x y) → Calls Try.prog 13 #[.slice (some ad) tl c2] W fun e w' => e = .returned (.int .i64 23) ∧ RowKit.Below W.heap.size W w') := Lib.hid (fun W h => by
      obtain ⟨cs2, t2, h2⟩ := h.hp
      have hr := h.rds (Q.hlt_of h2)
      rw [← HAD.out] at hr
      have hc := Q.pcheck_all (Q.swp T k x y) (some ad) c2 W.heap.size W (Nat.le_refl _) (by rw [HLEN.out]; exact HCC.out.1) hr
      rw [HSC.out, HLEN.out] at hc
      exact hc)
    go_region
    obtain ⟨V, hV⟩ : ∃ V, V = Q.put6o (Q.put6o w3 g (k * 6) y) g (p * 6) x := ⟨_, rfl⟩
    rw [← hV] at HPB HR7
    change Exit.then _ _ _ _ (World.drew (Q.put6o (Q.put6o w3 g (k * 6) y) g (p * 6) x))
    rw [← hV]
    have HCV := Lib.hid (HCE.out _ (HR7.out.below (Q.below_drew V)))
    clear hV HCE HR7 HW3 HR3 HR6 HOB HB3 x0 x1 x2 x3 x4 x5 y0 y1 y2 y3 y4 y5 fx0 fx1 fx2 fx3 fx4 fx5 fy0 fy1 fy2 fy3 fy4 fy5
    go_wp2_with (first
      | (go_at_call 13; with_reducible refine HCV.out.mono ?_; rintro e w5 ⟨rfl, hB5⟩; have P5 := Q.bt (Q.below_drew V) hB5)
      | (go_at_call 15; refine (HL.out _).mono ?_; rintro e w6 ⟨rfl, hB6⟩; have P6 := Q.bt P5 hB6))
    go_ret
    exact ⟨rfl, HPB.out.trans (P6.mono HPB.out.size)⟩

set_option maxRecDepth 100000 in
theorem lifted (os : Os) (started : os.Started) (H0 : Type) (enc : TypeId × Value → H0) :
    ReturnsInHanded {} Try.checked os 4 .any (Rows.orbitTablesSpec.pre6 enc Try.prog Try.f4 Rows.orbitTablesRow.domain false) (Rows.orbitTablesSpec.post enc Try.prog Try.f4 false true false false) := by
  refine returnsInHanded_of_change_sized (C := Try.checked) Go.Proofs.Ytojflmejkigdiaa.O.own started (by kernel_rfl) Try.func4
    (ChangeSpec.witness6 (enc := enc) (C := Try.checked) false ⟨#[], #[.slice none 0 0, .int .i64 0], []⟩ 8 (by kernel_rfl) (by kernel_rfl) (by kernel_rfl) (by kernel_rfl)) ?_
  intro W base args ds gs before hval0 hW hcnd hsz0 _
  have hsz : (DataW.weightsEach Try.prog (Try.f4.params.toList ++ Rows.orbitTablesSpec.plain.varTypes Try.prog) (ds ++ gs)).all (· ≤ reachBytes) = true := hsz0
  clear hsz0
  have hval : ∀ (j : Nat) t v, Try.f4.params[j]? = some t → args[j]? = some v → Value.okWide Try.prog W .any base t v := hval0
  have hW' := hW
  obtain ⟨p, q, hA0, hV, rfl, hfz, hnd⟩ := hW
  have hA : DataW.TrodAll enc Try.prog W 0 (fun _ => true) true Try.f4.params.toList args.toList ds p := hA0
  rw [Try.params4] at hA hval hsz
  obtain ⟨v0, vs0, d0, ds0, p0, q0, hargs, rfl, rfl, h0, r0⟩ := trodAll_cons hA
  obtain ⟨v1, vs1, d1, ds1, p1, q1, rfl, rfl, rfl, h1, r1⟩ := trodAll_cons r0
  obtain ⟨rfl, rfl, rfl⟩ := trodAll_nil r1
  obtain rfl : args = #[v0, v1] := by cases args; simp_all
  obtain ⟨rfl, rfl⟩ := trodVars_none hV
  obtain ⟨a0, n0, c0, rfl⟩ := okWide_slice Try.underlying27 (hval 0 27 v0 rfl rfl)
  have k0 := h0
  have lt0 : ∀ x ∈ p0, x.block < W.heap.size := by obtain ⟨m, hm⟩ := k0; exact DataW.trod_lt m _ _ _ hm
  obtain ⟨z0, l0, cp0, cq0, nz0, rd0, wf0, bj0⟩ := Go.Proofs.Ytojflmejkigdiaa.O.open_isT Try.underlying27 Try.underlying3 (by kernel_rfl) h0
  have el0 := Go.Proofs.Ytojflmejkigdiaa.O.open_el Try.underlying27 Try.underlying3 (by kernel_rfl) k0
  obtain ⟨a1, rfl, rfl, rfl, w1⟩ := open_int Try.underlying3 (hval 1 3 v1 rfl rfl) h1
  clear hA0 hval0
  have r0 : z0.length * 8 ≤ 140737488351232 := by
    rcases el0 with h | ⟨es, sp, h, hle⟩
    · omega
    · have hr := sized_slice hsz (j := 0) (t := 27) (e := 3) (elems := es) (spare := sp) rfl (by simp [h]) Try.underlying27
      rw [show Try.prog.bytesOf 3 = 8 from by kernel_rfl] at hr
      simp only [reachBytes] at hr
      omega
  refine (walk a0 n0 c0 z0 a1 W l0 ⟨cp0, cq0⟩ nz0 rd0 wf0 r0 w1).mono fun e W' ⟨he, bel⟩ => ?_
  subst he
  exact ⟨_, rfl, _, _, _, [], _, [], hW', trodAll_mk1 (shut_bool Try.underlying4 _), (trodAll_cons_mk (Below.trod Go.Proofs.Ytojflmejkigdiaa.O.laidOut (by kernel_rfl) (of_decide_eq_true (by kernel_rfl)) k0 bel lt0) (trodAll_cons_mk (shut_int Try.underlying3 w1) trodAll_mk0)), rfl, bel.frame _, fun h => by cases h⟩

/-- ████ THE STATEMENT ████ -/
theorem proved : Rows.OrbitTablesSaid :=
  OpenClaim.holds_of_wide 4 Try.f4 rfl rfl rfl rfl rfl rfl rfl ⟨rfl, rfl, rfl, rfl, rfl⟩ rfl rfl rfl rfl rfl (by kernel_rfl) Try.func4 (by kernel_rfl)
    (of_decide_eq_true (by kernel_rfl)) (by unfold Func.isWrapper; first | (rw [if_pos (by decide +kernel)]; kernel_rfl) | (rw [if_neg (by decide +kernel)]; exact ⟨rfl, rfl⟩))
    (fun os started H0 enc _ => lifted os started H0 enc)
end Go.Proofs.Ytojflmejkigdiaa.orbitTables
