/-
  For all numbers and queries, OrbitAt returns true: At and Next return what the specification's return over the table that is made from the numbers, and the chapter's examples hold.
-/
import Derived.Test.YtojflmejkigdiaaQRAt
import Derived.Test.YtojflmejkigdiaaQQy
import Derived.Test.YtojflmejkigdiaaQLiv
import Derived.Deep.DeepCutAuto
import Derived.Deep.RegionHeld3
import Derived.Deep.LoopGhost
import Derived.Deep.QuietTactic
namespace Go.Proofs.Ytojflmejkigdiaa.orbitAt
open Go.ChangeShapes Go.WideShapes Go.ChangeAt Go.RowKit
open Go.ChangeMaps (open_string shut_string)
set_option linter.unusedVariables false

set_option maxRecDepth 100000 in
set_option maxHeartbeats 4000000 in
theorem walk (a0 : Option Addr) (n0 c0 : Nat) (z0 : List Int) (x1 : Q.Qy) (w : World) (l0 : z0.length = n0) (cp0 : n0 ≤ c0 ∧ c0 ≤ maxLen) (nz0 : a0 = none → c0 = 0) (rd0 : H.RdI w w.heap.size .i64 a0 z0) (wf0 : ∀ n ∈ z0, (Lit.int .i64 n).wf = true) (r0 : z0.length * 8 ≤ 140737488351232) (ok1 : x1.Ok) :
    Calls Try.prog 5 #[.slice a0 n0 c0, x1.v] w fun e w' => e = .returned (.bool true) ∧ Below w.heap.size w w' := by
  subst l0
  have HL := Lib.hid (fun W => Q.lives_any W)
  have HT : RowKit.Hid (∀ W, RowKit.Below w.heap.size w W → Calls Try.prog 16 #[.slice a0 z0.length c0] W fun e w' => ∃ A2 c2 T, e = .returned (.slice A2 T.length c2) ∧ Q.Good T ∧ T.length ≤ 60 ∧ Q.OwnT w' A2 T c2 ∧ RowKit.Below W.heap.size W w') :=
    Lib.hid (fun W hW => Q.rtable_any z0 a0 c0 w.heap.size W hW.size (by omega) (rd0.below hW) (fun z hz => H.i64_range (wf0 z hz)))
  clear cp0 nz0 rd0 wf0 ok1 r0
  generalize z0.length = zl at *
  have HB0 : RowKit.Hid (RowKit.Below w.heap.size w (w.alloc (.cells #[.int .i64 x1.kind, .int .i64 x1.a, .int .i64 x1.b, .int .i64 x1.tick, .int .i64 x1.fr, .int .i64 x1.un] 34))) := Lib.hid (Q.bel1 _ _)
  have HC0 : RowKit.Hid ((w.alloc (.cells #[.int .i64 x1.kind, .int .i64 x1.a, .int .i64 x1.b, .int .i64 x1.tick, .int .i64 x1.fr, .int .i64 x1.un] 34)).cell? ⟨w.heap.size, 0, none⟩ = some (.int .i64 x1.kind)) := Lib.hid (Q.cell_top _ _ _ 0)
  have HC1 : RowKit.Hid ((w.alloc (.cells #[.int .i64 x1.kind, .int .i64 x1.a, .int .i64 x1.b, .int .i64 x1.tick, .int .i64 x1.fr, .int .i64 x1.un] 34)).cell? ⟨w.heap.size, 1, none⟩ = some (.int .i64 x1.a)) := Lib.hid (Q.cell_top _ _ _ 1)
  have HC2 : RowKit.Hid ((w.alloc (.cells #[.int .i64 x1.kind, .int .i64 x1.a, .int .i64 x1.b, .int .i64 x1.tick, .int .i64 x1.fr, .int .i64 x1.un] 34)).cell? ⟨w.heap.size, 2, none⟩ = some (.int .i64 x1.b)) := Lib.hid (Q.cell_top _ _ _ 2)
  have HC3 : RowKit.Hid ((w.alloc (.cells #[.int .i64 x1.kind, .int .i64 x1.a, .int .i64 x1.b, .int .i64 x1.tick, .int .i64 x1.fr, .int .i64 x1.un] 34)).cell? ⟨w.heap.size, 3, none⟩ = some (.int .i64 x1.tick)) := Lib.hid (Q.cell_top _ _ _ 3)
  go_enter Try.func5, Try.ntmps5
  go_upto_region 2 with (go_at_call 16; refine (HT.out _ HB0.out).mono ?_; rintro e w2 ⟨A2, c2, T, rfl, hgd, htl, hO, hB⟩; have HGD := Lib.hid hgd; have HO := Lib.hid hO; have HB2 := Lib.hid hB; have HTL := Lib.hid htl; clear hgd hO hB htl)
  have b0 := Q.below_cell HB2.out HC0.out
  have b1 := Q.below_cell HB2.out HC1.out
  have b2 := Q.below_cell HB2.out HC2.out
  have b3 := Q.below_cell HB2.out HC3.out
  have BW2 := Lib.hid (Q.bt HB0.out HB2.out)
  have HA : RowKit.Hid (∀ W, RowKit.Below w2.heap.size w2 W → Calls Try.prog 18 #[.slice A2 T.length c2, .int .i64 x1.kind, .int .i64 x1.a, .int .i64 x1.b, .int .i64 x1.tick] W fun e w' => e = .returned (.tuple #[((T.find? (Q.pAt x1.kind x1.a x1.b x1.tick)).getD Q.zw).v, .bool (T.find? (Q.pAt x1.kind x1.a x1.b x1.tick)).isSome]) ∧ RowKit.Below W.heap.size W w') :=
    Lib.hid (fun W hW => Q.pAt_any T A2 c2 w2.heap.size _ _ _ _ W hW.size (by have := HTL.out; omega) (HO.out.rds.below hW))
  have HRA : RowKit.Hid (∀ W, RowKit.Below w2.heap.size w2 W → Calls Try.prog 19 #[.slice A2 T.length c2, .int .i64 x1.kind, .int .i64 x1.a, .int .i64 x1.b, .int .i64 x1.tick] W fun e w' => e = .returned (.tuple #[((T.find? (Q.pAt x1.kind x1.a x1.b x1.tick)).getD Q.zw).v, .bool (T.find? (Q.pAt x1.kind x1.a x1.b x1.tick)).isSome]) ∧ RowKit.Below W.heap.size W w') :=
    Lib.hid (fun W hW => Q.rAt_any T A2 c2 w2.heap.size _ _ _ _ W hW.size (by have := HTL.out; omega) (HO.out.rds.below hW))
  have HN : RowKit.Hid (∀ W, RowKit.Below w2.heap.size w2 W → Calls Try.prog 20 #[.slice A2 T.length c2, .int .i64 x1.kind, .int .i64 x1.a, .int .i64 x1.b, .int .i64 x1.tick] W fun e w' => e = .returned (.tuple #[((T.find? (Q.pNext x1.kind x1.a x1.b x1.tick)).getD Q.zw).v, .bool (T.find? (Q.pNext x1.kind x1.a x1.b x1.tick)).isSome]) ∧ RowKit.Below W.heap.size W w') :=
    Lib.hid (fun W hW => Q.pNext_any T A2 c2 w2.heap.size _ _ _ _ W hW.size (by have := HTL.out; omega) (HO.out.rds.below hW))
  have HRN : RowKit.Hid (∀ W, RowKit.Below w2.heap.size w2 W → Calls Try.prog 21 #[.slice A2 T.length c2, .int .i64 x1.kind, .int .i64 x1.a, .int .i64 x1.b, .int .i64 x1.tick] W fun e w' => e = .returned (.tuple #[((T.find? (Q.pNext x1.kind x1.a x1.b x1.tick)).getD Q.zw).v, .bool (T.find? (Q.pNext x1.kind x1.a x1.b x1.tick)).isSome]) ∧ RowKit.Below W.heap.size W w') :=
    Lib.hid (fun W hW => Q.rNext_any T A2 c2 w2.heap.size _ _ _ _ W hW.size (by have := HTL.out; omega) (HO.out.rds.below hW))
  generalize (T.find? (Q.pAt x1.kind x1.a x1.b x1.tick)).getD Q.zw = y at *
  generalize (T.find? (Q.pAt x1.kind x1.a x1.b x1.tick)).isSome = r at *
  generalize (T.find? (Q.pNext x1.kind x1.a x1.b x1.tick)).getD Q.zw = z at *
  generalize (T.find? (Q.pNext x1.kind x1.a x1.b x1.tick)).isSome = q at *
  generalize T.length = tl at *
  go_wp2_with (first
    | (go_at_call 18; with_reducible refine (HA.out _ (Below.refl _ _)).mono ?_; rintro e w3 ⟨rfl, hB3⟩; have P3 := Q.bt (Below.refl _ _) hB3; have S3 := Q.bt P3 (Q.bel1 w3 (.cells #[.int .i64 y.kind, .int .i64 y.a, .int .i64 y.b, .int .i64 y.fr, .int .i64 y.un, .int .i64 y.rate] 31)); have q30 := Q.cell_under (.cells #[.int .i64 y.kind, .int .i64 y.a, .int .i64 y.b, .int .i64 y.fr, .int .i64 y.un, .int .i64 y.rate] 31) (Q.below_cell hB3 b0); have q31 := Q.cell_under (.cells #[.int .i64 y.kind, .int .i64 y.a, .int .i64 y.b, .int .i64 y.fr, .int .i64 y.un, .int .i64 y.rate] 31) (Q.below_cell hB3 b1); have q32 := Q.cell_under (.cells #[.int .i64 y.kind, .int .i64 y.a, .int .i64 y.b, .int .i64 y.fr, .int .i64 y.un, .int .i64 y.rate] 31) (Q.below_cell hB3 b2); have q33 := Q.cell_under (.cells #[.int .i64 y.kind, .int .i64 y.a, .int .i64 y.b, .int .i64 y.fr, .int .i64 y.un, .int .i64 y.rate] 31) (Q.below_cell hB3 b3); have N3_3 := (Q.heap_top w3 (.cells #[.int .i64 y.kind, .int .i64 y.a, .int .i64 y.b, .int .i64 y.fr, .int .i64 y.un, .int .i64 y.rate] 31)))
    | (go_at_call 19; with_reducible refine (HRA.out _ S3).mono ?_; rintro e w4 ⟨rfl, hB4⟩; have P4 := Q.bt S3 hB4; have S4 := Q.bt P4 (Q.bel1 w4 (.cells #[.int .i64 y.kind, .int .i64 y.a, .int .i64 y.b, .int .i64 y.fr, .int .i64 y.un, .int .i64 y.rate] 31)); have q40 := Q.cell_under (.cells #[.int .i64 y.kind, .int .i64 y.a, .int .i64 y.b, .int .i64 y.fr, .int .i64 y.un, .int .i64 y.rate] 31) (Q.below_cell hB4 q30); have q41 := Q.cell_under (.cells #[.int .i64 y.kind, .int .i64 y.a, .int .i64 y.b, .int .i64 y.fr, .int .i64 y.un, .int .i64 y.rate] 31) (Q.below_cell hB4 q31); have q42 := Q.cell_under (.cells #[.int .i64 y.kind, .int .i64 y.a, .int .i64 y.b, .int .i64 y.fr, .int .i64 y.un, .int .i64 y.rate] 31) (Q.below_cell hB4 q32); have q43 := Q.cell_under (.cells #[.int .i64 y.kind, .int .i64 y.a, .int .i64 y.b, .int .i64 y.fr, .int .i64 y.un, .int .i64 y.rate] 31) (Q.below_cell hB4 q33); have N4_4 := (Q.heap_top w4 (.cells #[.int .i64 y.kind, .int .i64 y.a, .int .i64 y.b, .int .i64 y.fr, .int .i64 y.un, .int .i64 y.rate] 31)); have N3_4 := Q.hup (.cells #[.int .i64 y.kind, .int .i64 y.a, .int .i64 y.b, .int .i64 y.fr, .int .i64 y.un, .int .i64 y.rate] 31) (Q.heap_keep hB4 N3_3))
    | (go_at_call 20; with_reducible refine (HN.out _ S4).mono ?_; rintro e w5 ⟨rfl, hB5⟩; have P5 := Q.bt S4 hB5; have S5 := Q.bt P5 (Q.bel1 w5 (.cells #[.int .i64 z.kind, .int .i64 z.a, .int .i64 z.b, .int .i64 z.fr, .int .i64 z.un, .int .i64 z.rate] 31)); have q50 := Q.cell_under (.cells #[.int .i64 z.kind, .int .i64 z.a, .int .i64 z.b, .int .i64 z.fr, .int .i64 z.un, .int .i64 z.rate] 31) (Q.below_cell hB5 q40); have q51 := Q.cell_under (.cells #[.int .i64 z.kind, .int .i64 z.a, .int .i64 z.b, .int .i64 z.fr, .int .i64 z.un, .int .i64 z.rate] 31) (Q.below_cell hB5 q41); have q52 := Q.cell_under (.cells #[.int .i64 z.kind, .int .i64 z.a, .int .i64 z.b, .int .i64 z.fr, .int .i64 z.un, .int .i64 z.rate] 31) (Q.below_cell hB5 q42); have q53 := Q.cell_under (.cells #[.int .i64 z.kind, .int .i64 z.a, .int .i64 z.b, .int .i64 z.fr, .int .i64 z.un, .int .i64 z.rate] 31) (Q.below_cell hB5 q43); have N5_5 := (Q.heap_top w5 (.cells #[.int .i64 z.kind, .int .i64 z.a, .int .i64 z.b, .int .i64 z.fr, .int .i64 z.un, .int .i64 z.rate] 31)); have N3_5 := Q.hup (.cells #[.int .i64 z.kind, .int .i64 z.a, .int .i64 z.b, .int .i64 z.fr, .int .i64 z.un, .int .i64 z.rate] 31) (Q.heap_keep hB5 N3_4); have N4_5 := Q.hup (.cells #[.int .i64 z.kind, .int .i64 z.a, .int .i64 z.b, .int .i64 z.fr, .int .i64 z.un, .int .i64 z.rate] 31) (Q.heap_keep hB5 N4_4))
    | (go_at_call 21; go_must (with_reducible refine (HRN.out _ S5).mono ?_; rintro e w6 ⟨rfl, hB6⟩; have P6 := Q.bt S5 hB6; have S6 := Q.bt P6 (Q.bel1 w6 (.cells #[.int .i64 z.kind, .int .i64 z.a, .int .i64 z.b, .int .i64 z.fr, .int .i64 z.un, .int .i64 z.rate] 31)); have q60 := Q.cell_under (.cells #[.int .i64 z.kind, .int .i64 z.a, .int .i64 z.b, .int .i64 z.fr, .int .i64 z.un, .int .i64 z.rate] 31) (Q.below_cell hB6 q50); have q61 := Q.cell_under (.cells #[.int .i64 z.kind, .int .i64 z.a, .int .i64 z.b, .int .i64 z.fr, .int .i64 z.un, .int .i64 z.rate] 31) (Q.below_cell hB6 q51); have q62 := Q.cell_under (.cells #[.int .i64 z.kind, .int .i64 z.a, .int .i64 z.b, .int .i64 z.fr, .int .i64 z.un, .int .i64 z.rate] 31) (Q.below_cell hB6 q52); have q63 := Q.cell_under (.cells #[.int .i64 z.kind, .int .i64 z.a, .int .i64 z.b, .int .i64 z.fr, .int .i64 z.un, .int .i64 z.rate] 31) (Q.below_cell hB6 q53); have N6_6 := (Q.heap_top w6 (.cells #[.int .i64 z.kind, .int .i64 z.a, .int .i64 z.b, .int .i64 z.fr, .int .i64 z.un, .int .i64 z.rate] 31)); have N3_6 := Q.hup (.cells #[.int .i64 z.kind, .int .i64 z.a, .int .i64 z.b, .int .i64 z.fr, .int .i64 z.un, .int .i64 z.rate] 31) (Q.heap_keep hB6 N3_5); have N4_6 := Q.hup (.cells #[.int .i64 z.kind, .int .i64 z.a, .int .i64 z.b, .int .i64 z.fr, .int .i64 z.un, .int .i64 z.rate] 31) (Q.heap_keep hB6 N4_5); have N5_6 := Q.hup (.cells #[.int .i64 z.kind, .int .i64 z.a, .int .i64 z.b, .int .i64 z.fr, .int .i64 z.un, .int .i64 z.rate] 31) (Q.heap_keep hB6 N5_5); obtain ⟨⟨m30, m31, m32, m33, m34, m35⟩, _⟩ := Q.row6 N3_6; obtain ⟨⟨m40, m41, m42, m43, m44, m45⟩, _⟩ := Q.row6 N4_6; obtain ⟨⟨m50, m51, m52, m53, m54, m55⟩, _⟩ := Q.row6 N5_6; obtain ⟨⟨m60, m61, m62, m63, m64, m65⟩, _⟩ := Q.row6 N6_6))
    | (go_at_call 15; refine (HL.out _).mono ?_; rintro e w7 ⟨rfl, hB7⟩; have P7 := Q.bt S6 hB7; clear hB7))
  go_ret
  exact ⟨rfl, BW2.out.trans (P7.mono BW2.out.size)⟩

set_option maxRecDepth 100000 in
theorem lifted (os : Os) (started : os.Started) (H0 : Type) (enc : TypeId × Value → H0) :
    ReturnsInHanded {} Try.checked os 5 .any (Rows.orbitAtSpec.pre6 enc Try.prog Try.f5 Rows.orbitAtRow.domain false) (Rows.orbitAtSpec.post enc Try.prog Try.f5 false true false false) := by
  refine returnsInHanded_of_change_sized (C := Try.checked) Go.Proofs.Ytojflmejkigdiaa.O.own started (by kernel_rfl) Try.func5
    (ChangeSpec.witness6 (enc := enc) (C := Try.checked) false ⟨#[], #[.slice none 0 0, .agg #[.int .i64 0, .int .i64 0, .int .i64 0, .int .i64 0, .int .i64 0, .int .i64 0]], []⟩ 8 (by kernel_rfl) (by kernel_rfl) (by kernel_rfl) (by kernel_rfl)) ?_
  intro W base args ds gs before hval0 hW hcnd hsz0 _
  have hsz : (DataW.weightsEach Try.prog (Try.f5.params.toList ++ Rows.orbitAtSpec.plain.varTypes Try.prog) (ds ++ gs)).all (· ≤ reachBytes) = true := hsz0
  clear hsz0
  have hval : ∀ (j : Nat) t v, Try.f5.params[j]? = some t → args[j]? = some v → Value.okWide Try.prog W .any base t v := hval0
  have hW' := hW
  obtain ⟨p, q, hA0, hV, rfl, hfz, hnd⟩ := hW
  have hA : DataW.TrodAll enc Try.prog W 0 (fun _ => true) true Try.f5.params.toList args.toList ds p := hA0
  rw [Try.params5] at hA hval hsz
  obtain ⟨v0, vs0, d0, ds0, p0, q0, hargs, rfl, rfl, h0, r0⟩ := trodAll_cons hA
  obtain ⟨v1, vs1, d1, ds1, p1, q1, rfl, rfl, rfl, h1, r1⟩ := trodAll_cons r0
  obtain ⟨rfl, rfl, rfl⟩ := trodAll_nil r1
  obtain rfl : args = #[v0, v1] := by cases args; simp_all
  obtain ⟨rfl, rfl⟩ := trodVars_none hV
  obtain ⟨a0, n0, c0, rfl⟩ := okWide_slice Try.underlying27 (hval 0 27 v0 rfl rfl)
  have k0 := h0
  have lt0 : ∀ x ∈ p0, x.block < W.heap.size := by obtain ⟨m, hm⟩ := k0; exact DataW.trod_lt m _ _ _ hm
  obtain ⟨z0, l0, cp0, cq0, nz0, rd0, wf0, bj0⟩ := Go.Proofs.Ytojflmejkigdiaa.O.open_isT Try.underlying27 Try.underlying3 (by kernel_rfl) h0
  have el0 := Go.Proofs.Ytojflmejkigdiaa.O.open_el Try.underlying27 Try.underlying3 (by kernel_rfl) k0
  have k1 := h1
  have lt1 : ∀ x ∈ p1, x.block < W.heap.size := by obtain ⟨m, hm⟩ := k1; exact DataW.trod_lt m _ _ _ hm
  obtain ⟨x1, rfl, ok1⟩ := Go.Proofs.Ytojflmejkigdiaa.Q.open_Qy (hval 1 34 v1 rfl rfl) h1
  clear hA0 hval0
  have r0 : z0.length * 8 ≤ 140737488351232 := by
    rcases el0 with h | ⟨es, sp, h, hle⟩
    · omega
    · have hr := sized_slice hsz (j := 0) (t := 27) (e := 3) (elems := es) (spare := sp) rfl (by simp [h]) Try.underlying27
      rw [show Try.prog.bytesOf 3 = 8 from by kernel_rfl] at hr
      simp only [reachBytes] at hr
      omega
  refine (walk a0 n0 c0 z0 x1 W l0 ⟨cp0, cq0⟩ nz0 rd0 wf0 r0 ok1).mono fun e W' ⟨he, bel⟩ => ?_
  subst he
  exact ⟨_, rfl, _, _, _, [], _, [], hW', trodAll_mk1 (shut_bool Try.underlying4 _), (trodAll_cons_mk (Below.trod Go.Proofs.Ytojflmejkigdiaa.O.laidOut (by kernel_rfl) (of_decide_eq_true (by kernel_rfl)) k0 bel lt0) (trodAll_cons_mk (Below.trod Go.Proofs.Ytojflmejkigdiaa.O.laidOut (by kernel_rfl) (of_decide_eq_true (by kernel_rfl)) k1 bel lt1) trodAll_mk0)), rfl, bel.frame _, fun h => by cases h⟩

/-- ████ THE STATEMENT ████ -/
theorem proved : Rows.OrbitAtSaid :=
  OpenClaim.holds_of_wide 5 Try.f5 rfl rfl rfl rfl rfl rfl rfl ⟨rfl, rfl, rfl, rfl, rfl⟩ rfl rfl rfl rfl rfl (by kernel_rfl) Try.func5 (by kernel_rfl)
    (of_decide_eq_true (by kernel_rfl)) (by unfold Func.isWrapper; first | (rw [if_pos (by decide +kernel)]; kernel_rfl) | (rw [if_neg (by decide +kernel)]; exact ⟨rfl, rfl⟩))
    (fun os started H0 enc _ => lifted os started H0 enc)
end Go.Proofs.Ytojflmejkigdiaa.orbitAt
