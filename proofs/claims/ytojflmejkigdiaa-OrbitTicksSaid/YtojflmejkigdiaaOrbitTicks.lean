/-
  For all numbers and queries, OrbitTicks returns true: both Ticks return the same number over the table that is made from the numbers, and the chapter's examples hold.
-/
import Derived.Test.YtojflmejkigdiaaQRTk
import Derived.Test.YtojflmejkigdiaaQQy
import Derived.Test.YtojflmejkigdiaaQLiv
import Derived.Deep.DeepCutAuto
import Derived.Deep.RegionHeld3
import Derived.Deep.LoopGhost
import Derived.Deep.QuietTactic
namespace Go.Proofs.Ytojflmejkigdiaa.orbitTicks
open Go.ChangeShapes Go.WideShapes Go.ChangeAt Go.RowKit
open Go.ChangeMaps (open_string shut_string)
set_option linter.unusedVariables false

set_option maxRecDepth 100000 in
set_option maxHeartbeats 4000000 in
theorem walk (a0 : Option Addr) (n0 c0 : Nat) (z0 : List Int) (x1 : Q.Qy) (w : World) (l0 : z0.length = n0) (cp0 : n0 ≤ c0 ∧ c0 ≤ maxLen) (nz0 : a0 = none → c0 = 0) (rd0 : H.RdI w w.heap.size .i64 a0 z0) (wf0 : ∀ n ∈ z0, (Lit.int .i64 n).wf = true) (r0 : z0.length * 8 ≤ 140737488351232) (ok1 : x1.Ok) :
    Calls Try.prog 6 #[.slice a0 n0 c0, x1.v] w fun e w' => e = .returned (.bool true) ∧ Below w.heap.size w w' := by
  subst l0
  have HL := Lib.hid (fun W => Q.lives_any W)
  have HT : RowKit.Hid (∀ W, RowKit.Below w.heap.size w W → Calls Try.prog 16 #[.slice a0 z0.length c0] W fun e w' => ∃ A2 c2 T, e = .returned (.slice A2 T.length c2) ∧ Q.Good T ∧ T.length ≤ 60 ∧ Q.OwnT w' A2 T c2 ∧ RowKit.Below W.heap.size W w') :=
    Lib.hid (fun W hW => Q.rtable_any z0 a0 c0 w.heap.size W hW.size (by omega) (rd0.below hW) (fun z hz => H.i64_range (wf0 z hz)))
  clear cp0 nz0 rd0 wf0 ok1 r0
  generalize z0.length = zl at *
  have HB0 : RowKit.Hid (RowKit.Below w.heap.size w (w.alloc (.cells #[.int .i64 x1.kind, .int .i64 x1.a, .int .i64 x1.b, .int .i64 x1.tick, .int .i64 x1.fr, .int .i64 x1.un] 34))) := Lib.hid (Q.bel1 _ _)
  have HC0 : RowKit.Hid ((w.alloc (.cells #[.int .i64 x1.kind, .int .i64 x1.a, .int .i64 x1.b, .int .i64 x1.tick, .int .i64 x1.fr, .int .i64 x1.un] 34)).cell? ⟨w.heap.size, 0, none⟩ = some (.int .i64 x1.kind)) := Lib.hid (Q.cell_top _ _ _ 0)
  have HC1 : RowKit.Hid ((w.alloc (.cells #[.int .i64 x1.kind, .int .i64 x1.a, .int .i64 x1.b, .int .i64 x1.tick, .int .i64 x1.fr, .int .i64 x1.un] 34)).cell? ⟨w.heap.size, 1, none⟩ = some (.int .i64 x1.a)) := Lib.hid (Q.cell_top _ _ _ 1)
  have HC2 : RowKit.Hid ((w.alloc (.cells #[.int .i64 x1.kind, .int .i64 x1.a, .int .i64 x1.b, .int .i64 x1.tick, .int .i64 x1.fr, .int .i64 x1.un] 34)).cell? ⟨w.heap.size, 2, none⟩ = some (.int .i64 x1.b)) := Lib.hid (Q.cell_top _ _ _ 2)
  have HC4 : RowKit.Hid ((w.alloc (.cells #[.int .i64 x1.kind, .int .i64 x1.a, .int .i64 x1.b, .int .i64 x1.tick, .int .i64 x1.fr, .int .i64 x1.un] 34)).cell? ⟨w.heap.size, 4, none⟩ = some (.int .i64 x1.fr)) := Lib.hid (Q.cell_top _ _ _ 4)
  have HC5 : RowKit.Hid ((w.alloc (.cells #[.int .i64 x1.kind, .int .i64 x1.a, .int .i64 x1.b, .int .i64 x1.tick, .int .i64 x1.fr, .int .i64 x1.un] 34)).cell? ⟨w.heap.size, 5, none⟩ = some (.int .i64 x1.un)) := Lib.hid (Q.cell_top _ _ _ 5)
  go_enter Try.func6, Try.ntmps6
  go_upto_region 2 with (go_at_call 16; refine (HT.out _ HB0.out).mono ?_; rintro e w2 ⟨A2, c2, T, rfl, hgd, htl, hO, hB⟩; have HGD := Lib.hid hgd; have HO := Lib.hid hO; have HB2 := Lib.hid hB; have HTL := Lib.hid htl; clear hgd hO hB htl)
  have b0 := Q.below_cell HB2.out HC0.out
  have b1 := Q.below_cell HB2.out HC1.out
  have b2 := Q.below_cell HB2.out HC2.out
  have b4 := Q.below_cell HB2.out HC4.out
  have b5 := Q.below_cell HB2.out HC5.out
  have htok : ∀ x ∈ T, Q.Tok x := fun x hx => by
    have h := HGD.out.ok x hx
    unfold Q.fm at h
    have h2 := (of_decide_eq_true h).1
    exact ⟨by omega, by omega⟩
  have HTP : RowKit.Hid (∀ W, RowKit.Below w2.heap.size w2 W → Calls Try.prog 22 #[.slice A2 T.length c2, .int .i64 x1.kind, .int .i64 x1.a, .int .i64 x1.b, .int .i64 x1.fr, .int .i64 x1.un] W fun e w' => e = .returned (.int .i64 (Q.tick T x1.kind x1.a x1.b x1.fr x1.un)) ∧ RowKit.Below W.heap.size W w') :=
    Lib.hid (fun W hW => Q.pticks_any T A2 c2 w2.heap.size _ _ _ _ _ W hW.size (by have := HTL.out; omega) htok (HO.out.rds.below hW))
  have HTR : RowKit.Hid (∀ W, RowKit.Below w2.heap.size w2 W → Calls Try.prog 23 #[.slice A2 T.length c2, .int .i64 x1.kind, .int .i64 x1.a, .int .i64 x1.b, .int .i64 x1.fr, .int .i64 x1.un] W fun e w' => e = .returned (.int .i64 (Q.tick T x1.kind x1.a x1.b x1.fr x1.un)) ∧ RowKit.Below W.heap.size W w') :=
    Lib.hid (fun W hW => Q.rticks_any T A2 c2 w2.heap.size _ _ _ _ _ W hW.size (by have := HTL.out; omega) htok (HO.out.rds.below hW))
  have BW2 := Lib.hid (Q.bt HB0.out HB2.out)
  clear htok
  generalize Q.tick T x1.kind x1.a x1.b x1.fr x1.un = tk at *
  generalize T.length = tl at *
  go_region_held3 (fun W => W.cell? ⟨w.heap.size, 0, none⟩ = some (.int .i64 x1.kind) ∧ W.cell? ⟨w.heap.size, 1, none⟩ = some (.int .i64 x1.a) ∧ W.cell? ⟨w.heap.size, 2, none⟩ = some (.int .i64 x1.b) ∧ W.cell? ⟨w.heap.size, 4, none⟩ = some (.int .i64 x1.fr) ∧ W.cell? ⟨w.heap.size, 5, none⟩ = some (.int .i64 x1.un)) (with_reducible (first | exact ⟨Q.cell_drw b0, Q.cell_drw b1, Q.cell_drw b2, Q.cell_drw b4, Q.cell_drw b5⟩ | exact ⟨Q.below_cell P3 b0, Q.below_cell P3 b1, Q.below_cell P3 b2, Q.below_cell P3 b4, Q.below_cell P3 b5⟩ | exact ⟨Q.below_cell P4 b0, Q.below_cell P4 b1, Q.below_cell P4 b2, Q.below_cell P4 b4, Q.below_cell P4 b5⟩ | exact ⟨Q.below_cell P5 b0, Q.below_cell P5 b1, Q.below_cell P5 b2, Q.below_cell P5 b4, Q.below_cell P5 b5⟩))
    ((first
      | (go_at_call 22; with_reducible refine (HTP.out _ (Q.below_drew _)).mono ?_; rintro e w3 ⟨rfl, hB3⟩; have P3 := Q.bt (Q.below_drew _) hB3; clear hB3)
      | (go_at_call 23; with_reducible refine (HTR.out _ P3).mono ?_; rintro e w4 ⟨rfl, hB4⟩; have P4 := Q.bt P3 hB4; clear hB4)
      | (go_at_call 15; with_reducible refine (HL.out _).mono ?_; rintro e w5 ⟨rfl, hB5⟩; have P5 := Q.bt P4 hB5; clear hB5)))
  go_wp2_with fail
  go_ret
  exact ⟨rfl, BW2.out.trans (P5.mono BW2.out.size)⟩

set_option maxRecDepth 100000 in
theorem lifted (os : Os) (started : os.Started) (H0 : Type) (enc : TypeId × Value → H0) :
    ReturnsInHanded {} Try.checked os 6 .any (Rows.orbitTicksSpec.pre6 enc Try.prog Try.f6 Rows.orbitTicksRow.domain false) (Rows.orbitTicksSpec.post enc Try.prog Try.f6 false true false false) := by
  refine returnsInHanded_of_change_sized (C := Try.checked) Go.Proofs.Ytojflmejkigdiaa.O.own started (by kernel_rfl) Try.func6
    (ChangeSpec.witness6 (enc := enc) (C := Try.checked) false ⟨#[], #[.slice none 0 0, .agg #[.int .i64 0, .int .i64 0, .int .i64 0, .int .i64 0, .int .i64 0, .int .i64 0]], []⟩ 8 (by kernel_rfl) (by kernel_rfl) (by kernel_rfl) (by kernel_rfl)) ?_
  intro W base args ds gs before hval0 hW hcnd hsz0 _
  have hsz : (DataW.weightsEach Try.prog (Try.f6.params.toList ++ Rows.orbitTicksSpec.plain.varTypes Try.prog) (ds ++ gs)).all (· ≤ reachBytes) = true := hsz0
  clear hsz0
  have hval : ∀ (j : Nat) t v, Try.f6.params[j]? = some t → args[j]? = some v → Value.okWide Try.prog W .any base t v := hval0
  have hW' := hW
  obtain ⟨p, q, hA0, hV, rfl, hfz, hnd⟩ := hW
  have hA : DataW.TrodAll enc Try.prog W 0 (fun _ => true) true Try.f6.params.toList args.toList ds p := hA0
  rw [Try.params6] at hA hval hsz
  obtain ⟨v0, vs0, d0, ds0, p0, q0, hargs, rfl, rfl, h0, r0⟩ := trodAll_cons hA
  obtain ⟨v1, vs1, d1, ds1, p1, q1, rfl, rfl, rfl, h1, r1⟩ := trodAll_cons r0
  obtain ⟨rfl, rfl, rfl⟩ := trodAll_nil r1
  obtain rfl : args = #[v0, v1] := by cases args; simp_all
  obtain ⟨rfl, rfl⟩ := trodVars_none hV
  obtain ⟨a0, n0, c0, rfl⟩ := okWide_slice Try.underlying27 (hval 0 27 v0 rfl rfl)
  have k0 := h0
  have lt0 : ∀ x ∈ p0, x.block < W.heap.size := by obtain ⟨m, hm⟩ := k0; exact DataW.trod_lt m _ _ _ hm
  obtain ⟨z0, l0, cp0, cq0, nz0, rd0, wf0, bj0⟩ := Go.Proofs.Ytojflmejkigdiaa.O.open_isT Try.underlying27 Try.underlying3 (by kernel_rfl) h0
  have el0 := Go.Proofs.Ytojflmejkigdiaa.O.open_el Try.underlying27 Try.underlying3 (by kernel_rfl) k0
  have k1 := h1
  have lt1 : ∀ x ∈ p1, x.block < W.heap.size := by obtain ⟨m, hm⟩ := k1; exact DataW.trod_lt m _ _ _ hm
  obtain ⟨x1, rfl, ok1⟩ := Go.Proofs.Ytojflmejkigdiaa.Q.open_Qy (hval 1 34 v1 rfl rfl) h1
  clear hA0 hval0
  have r0 : z0.length * 8 ≤ 140737488351232 := by
    rcases el0 with h | ⟨es, sp, h, hle⟩
    · omega
    · have hr := sized_slice hsz (j := 0) (t := 27) (e := 3) (elems := es) (spare := sp) rfl (by simp [h]) Try.underlying27
      rw [show Try.prog.bytesOf 3 = 8 from by kernel_rfl] at hr
      simp only [reachBytes] at hr
      omega
  refine (walk a0 n0 c0 z0 x1 W l0 ⟨cp0, cq0⟩ nz0 rd0 wf0 r0 ok1).mono fun e W' ⟨he, bel⟩ => ?_
  subst he
  exact ⟨_, rfl, _, _, _, [], _, [], hW', trodAll_mk1 (shut_bool Try.underlying4 _), (trodAll_cons_mk (Below.trod Go.Proofs.Ytojflmejkigdiaa.O.laidOut (by kernel_rfl) (of_decide_eq_true (by kernel_rfl)) k0 bel lt0) (trodAll_cons_mk (Below.trod Go.Proofs.Ytojflmejkigdiaa.O.laidOut (by kernel_rfl) (of_decide_eq_true (by kernel_rfl)) k1 bel lt1) trodAll_mk0)), rfl, bel.frame _, fun h => by cases h⟩

/-- ████ THE STATEMENT ████ -/
theorem proved : Rows.OrbitTicksSaid :=
  OpenClaim.holds_of_wide 6 Try.f6 rfl rfl rfl rfl rfl rfl rfl ⟨rfl, rfl, rfl, rfl, rfl⟩ rfl rfl rfl rfl rfl (by kernel_rfl) Try.func6 (by kernel_rfl)
    (of_decide_eq_true (by kernel_rfl)) (by unfold Func.isWrapper; first | (rw [if_pos (by decide +kernel)]; kernel_rfl) | (rw [if_neg (by decide +kernel)]; exact ⟨rfl, rfl⟩))
    (fun os started H0 enc _ => lifted os started H0 enc)
end Go.Proofs.Ytojflmejkigdiaa.orbitTicks
