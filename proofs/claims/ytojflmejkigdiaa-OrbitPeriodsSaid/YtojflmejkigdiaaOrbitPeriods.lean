/-
  For all numbers and queries, OrbitPeriods returns true: the ticks of adjacent periods add up, those of a single tick tell whether At returns a window, and Next returns that window or one that opens later; and the chapter's examples hold.
-/
import Derived.Test.YtojflmejkigdiaaQPer
import Derived.Test.YtojflmejkigdiaaQQy
import Derived.Test.YtojflmejkigdiaaQLiv
import Derived.Deep.DeepCutAuto
import Derived.Deep.RegionHeld3
import Derived.Deep.LoopGhost
import Derived.Deep.QuietTactic
namespace Go.Proofs.Ytojflmejkigdiaa.orbitPeriods
open Go.ChangeShapes Go.WideShapes Go.ChangeAt Go.RowKit
open Go.ChangeMaps (open_string shut_string)
set_option linter.unusedVariables false

set_option maxRecDepth 100000 in
set_option maxHeartbeats 4000000 in
theorem walk (a0 : Option Addr) (n0 c0 : Nat) (z0 : List Int) (x1 : Q.Qy) (w : World) (l0 : z0.length = n0) (cp0 : n0 ≤ c0 ∧ c0 ≤ maxLen) (nz0 : a0 = none → c0 = 0) (rd0 : H.RdI w w.heap.size .i64 a0 z0) (wf0 : ∀ n ∈ z0, (Lit.int .i64 n).wf = true) (r0 : z0.length * 8 ≤ 140737488351232) (ok1 : x1.Ok) :
    Calls Try.prog 12 #[.slice a0 n0 c0, x1.v] w fun e w' => e = .returned (.bool true) ∧ Below w.heap.size w w' := by
  subst l0
  have HL := Lib.hid (fun W => Q.lives_any W)
  have HT : RowKit.Hid (∀ W, RowKit.Below w.heap.size w W → Calls Try.prog 16 #[.slice a0 z0.length c0] W fun e w' => ∃ A2 c2 T, e = .returned (.slice A2 T.length c2) ∧ Q.Good T ∧ T.length ≤ 60 ∧ Q.OwnT w' A2 T c2 ∧ RowKit.Below W.heap.size W w') :=
    Lib.hid (fun W hW => Q.rtable_any z0 a0 c0 w.heap.size W hW.size (by omega) (rd0.below hW) (fun z hz => H.i64_range (wf0 z hz)))
  have HBF : RowKit.Hid (∃ F : Int, -500 ≤ F ∧ F ≤ 500 ∧ ∀ W, Calls Try.prog 31 #[.int .i64 x1.fr, .int .i64 500] W fun e w' => e = .returned (.int .i64 F) ∧ w' = W) := Lib.hid ⟨H.around x1.fr (2 * 500 + 1) - 500, by have := H.around_lt x1.fr (m := 2 * 500 + 1) (by omega); omega, by have := H.around_lt x1.fr (m := 2 * 500 + 1) (by omega); omega, fun W => Q.bound_any x1.fr 500 W ok1.2.2.2.2.1 (by omega) (by omega)⟩
  have HBU : RowKit.Hid (∃ F : Int, -500 ≤ F ∧ F ≤ 500 ∧ ∀ W, Calls Try.prog 31 #[.int .i64 x1.un, .int .i64 500] W fun e w' => e = .returned (.int .i64 F) ∧ w' = W) := Lib.hid ⟨H.around x1.un (2 * 500 + 1) - 500, by have := H.around_lt x1.un (m := 2 * 500 + 1) (by omega); omega, by have := H.around_lt x1.un (m := 2 * 500 + 1) (by omega); omega, fun W => Q.bound_any x1.un 500 W ok1.2.2.2.2.2 (by omega) (by omega)⟩
  have HBT : RowKit.Hid (∃ F : Int, -500 ≤ F ∧ F ≤ 500 ∧ ∀ W, Calls Try.prog 31 #[.int .i64 x1.tick, .int .i64 500] W fun e w' => e = .returned (.int .i64 F) ∧ w' = W) := Lib.hid ⟨H.around x1.tick (2 * 500 + 1) - 500, by have := H.around_lt x1.tick (m := 2 * 500 + 1) (by omega); omega, by have := H.around_lt x1.tick (m := 2 * 500 + 1) (by omega); omega, fun W => Q.bound_any x1.tick 500 W ok1.2.2.2.1 (by omega) (by omega)⟩
  obtain ⟨F, F0, F1, HF⟩ := HBF.out
  obtain ⟨U, U0, U1, HU⟩ := HBU.out
  obtain ⟨K, K0, K1, HK⟩ := HBT.out
  replace HF := Lib.hid HF
  replace HU := Lib.hid HU
  replace HK := Lib.hid HK
  clear HBF HBU HBT
  clear cp0 nz0 rd0 wf0 ok1 r0
  generalize z0.length = zl at *
  have HB0 : RowKit.Hid (RowKit.Below w.heap.size w (w.alloc (.cells #[.int .i64 x1.kind, .int .i64 x1.a, .int .i64 x1.b, .int .i64 x1.tick, .int .i64 x1.fr, .int .i64 x1.un] 34))) := Lib.hid (Q.bel1 _ _)
  have HC0 : RowKit.Hid ((w.alloc (.cells #[.int .i64 x1.kind, .int .i64 x1.a, .int .i64 x1.b, .int .i64 x1.tick, .int .i64 x1.fr, .int .i64 x1.un] 34)).cell? ⟨w.heap.size, 0, none⟩ = some (.int .i64 x1.kind)) := Lib.hid (Q.cell_top _ _ _ 0)
  have HC1 : RowKit.Hid ((w.alloc (.cells #[.int .i64 x1.kind, .int .i64 x1.a, .int .i64 x1.b, .int .i64 x1.tick, .int .i64 x1.fr, .int .i64 x1.un] 34)).cell? ⟨w.heap.size, 1, none⟩ = some (.int .i64 x1.a)) := Lib.hid (Q.cell_top _ _ _ 1)
  have HC2 : RowKit.Hid ((w.alloc (.cells #[.int .i64 x1.kind, .int .i64 x1.a, .int .i64 x1.b, .int .i64 x1.tick, .int .i64 x1.fr, .int .i64 x1.un] 34)).cell? ⟨w.heap.size, 2, none⟩ = some (.int .i64 x1.b)) := Lib.hid (Q.cell_top _ _ _ 2)
  have HC3 : RowKit.Hid ((w.alloc (.cells #[.int .i64 x1.kind, .int .i64 x1.a, .int .i64 x1.b, .int .i64 x1.tick, .int .i64 x1.fr, .int .i64 x1.un] 34)).cell? ⟨w.heap.size, 3, none⟩ = some (.int .i64 x1.tick)) := Lib.hid (Q.cell_top _ _ _ 3)
  have HC4 : RowKit.Hid ((w.alloc (.cells #[.int .i64 x1.kind, .int .i64 x1.a, .int .i64 x1.b, .int .i64 x1.tick, .int .i64 x1.fr, .int .i64 x1.un] 34)).cell? ⟨w.heap.size, 4, none⟩ = some (.int .i64 x1.fr)) := Lib.hid (Q.cell_top _ _ _ 4)
  have HC5 : RowKit.Hid ((w.alloc (.cells #[.int .i64 x1.kind, .int .i64 x1.a, .int .i64 x1.b, .int .i64 x1.tick, .int .i64 x1.fr, .int .i64 x1.un] 34)).cell? ⟨w.heap.size, 5, none⟩ = some (.int .i64 x1.un)) := Lib.hid (Q.cell_top _ _ _ 5)
  go_enter Try.func12, Try.ntmps12
  go_upto_region 2 with (go_at_call 16; refine (HT.out _ HB0.out).mono ?_; rintro e w2 ⟨A2, c2, T, rfl, hgd, htl, hO, hB⟩; have HGD := Lib.hid hgd; have HO := Lib.hid hO; have HB2 := Lib.hid hB; have HTL := Lib.hid htl; clear hgd hO hB htl)
  have b0 := Q.below_cell HB2.out HC0.out
  have b1 := Q.below_cell HB2.out HC1.out
  have b2 := Q.below_cell HB2.out HC2.out
  have b3 := Q.below_cell HB2.out HC3.out
  have b4 := Q.below_cell HB2.out HC4.out
  have b5 := Q.below_cell HB2.out HC5.out
  have BW2 := Lib.hid (Q.bt HB0.out HB2.out)
  have htok : ∀ x ∈ T, Q.Tok x := fun x hx => by
    have h := HGD.out.ok x hx
    unfold Q.fm at h
    have h2 := (of_decide_eq_true h).1
    exact ⟨by omega, by omega⟩
  have HTP : RowKit.Hid (∀ f u W, RowKit.Below w2.heap.size w2 W → Calls Try.prog 22 #[.slice A2 T.length c2, .int .i64 x1.kind, .int .i64 x1.a, .int .i64 x1.b, .int .i64 f, .int .i64 u] W fun e w' => e = .returned (.int .i64 (Q.tick T x1.kind x1.a x1.b f u)) ∧ RowKit.Below W.heap.size W w') :=
    Lib.hid (fun f u W hW => Q.pticks_any T A2 c2 w2.heap.size _ _ _ _ _ W hW.size (by have := HTL.out; omega) htok (HO.out.rds.below hW))
  have HTB : RowKit.Hid (∀ f u, 0 ≤ Q.tick T x1.kind x1.a x1.b f u ∧ Q.tick T x1.kind x1.a x1.b f u ≤ 1000000000) := Lib.hid (fun f u => by have h := Q.tick_bd htok (by have := HTL.out; omega) x1.kind x1.a x1.b f u T.length; rwa [List.take_length] at h)
  have HA : RowKit.Hid (∀ t W, RowKit.Below w2.heap.size w2 W → Calls Try.prog 18 #[.slice A2 T.length c2, .int .i64 x1.kind, .int .i64 x1.a, .int .i64 x1.b, .int .i64 t] W fun e w' => e = .returned (Q.fstV T (Q.pAt x1.kind x1.a x1.b t)) ∧ RowKit.Below W.heap.size W w') :=
    Lib.hid (fun t W hW => Q.pAt_any T A2 c2 w2.heap.size _ _ _ _ W hW.size (by have := HTL.out; omega) (HO.out.rds.below hW))
  have HN : RowKit.Hid (∀ t W, RowKit.Below w2.heap.size w2 W → Calls Try.prog 20 #[.slice A2 T.length c2, .int .i64 x1.kind, .int .i64 x1.a, .int .i64 x1.b, .int .i64 t] W fun e w' => e = .returned (Q.fstV T (Q.pNext x1.kind x1.a x1.b t)) ∧ RowKit.Below W.heap.size W w') :=
    Lib.hid (fun t W hW => Q.pNext_any T A2 c2 w2.heap.size _ _ _ _ W hW.size (by have := HTL.out; omega) (HO.out.rds.below hW))
  clear htok
  go_upto_region 6 with (first
    | (go_at_call 31; with_reducible refine (HF.out _).mono ?_; rintro e w3 ⟨rfl, hw⟩; rw [hw]; clear hw w3)
    | (go_at_call 31; with_reducible refine (HU.out _).mono ?_; rintro e w3 ⟨rfl, hw⟩; rw [hw]; clear hw w3)
    | (go_at_call 31; with_reducible refine (HK.out _).mono ?_; rintro e w3 ⟨rfl, hw⟩; rw [hw]; clear hw w3))
  obtain ⟨M, hM⟩ : ∃ M, M = max F (min U K) := ⟨_, rfl⟩
  obtain ⟨Z, hZ⟩ : ∃ Z, Z = max F (max (min U K) U) := ⟨_, rfl⟩
  have M0 : F ≤ M := by omega
  have M1 : M ≤ Z := by omega
  have M2 : M ≤ 500 := by omega
  have Z1 : Z ≤ 500 := by omega
  rw [← hM, ← hZ]
  clear hM hZ HF HU HK U0 U1 K0 K1
  have HADD := Lib.hid (Q.tick_add T x1.kind x1.a x1.b M0 M1)
  have HONE := Lib.hid (Q.tick_one T x1.kind x1.a x1.b M HGD.out.nm)
  have HNA := Lib.hid (Q.next_at T x1.kind x1.a x1.b M HGD.out.st)
  have HGAP := Lib.hid (fun x h h2 => Q.next_gap (k := x1.kind) (a := x1.a) (b := x1.b) (t := M) (x := x) HGD.out.st h h2)
  have hadd : IntKind.i64.wrap (Q.tick T x1.kind x1.a x1.b F M + Q.tick T x1.kind x1.a x1.b M Z) = Q.tick T x1.kind x1.a x1.b F Z := by rw [HADD.out]; exact IntWalk.i64_in _ (by have := HTB.out F Z; omega)
  have HT1 := Lib.hid (HTP.out F M)
  have HT2 := Lib.hid (HTP.out M Z)
  have HT3 := Lib.hid (HTP.out F Z)
  generalize Q.tick T x1.kind x1.a x1.b F M = k1 at *
  generalize Q.tick T x1.kind x1.a x1.b M Z = k2 at *
  generalize Q.tick T x1.kind x1.a x1.b F Z = k3 at *
  clear HADD
  go_region_held3 (fun W => W.cell? ⟨w.heap.size, 0, none⟩ = some (.int .i64 x1.kind) ∧ W.cell? ⟨w.heap.size, 1, none⟩ = some (.int .i64 x1.a) ∧ W.cell? ⟨w.heap.size, 2, none⟩ = some (.int .i64 x1.b)) (with_reducible (first | exact ⟨Q.cell_drw b0, Q.cell_drw b1, Q.cell_drw b2⟩ | exact ⟨Q.below_cell P3 b0, Q.below_cell P3 b1, Q.below_cell P3 b2⟩ | exact ⟨Q.below_cell P4 b0, Q.below_cell P4 b1, Q.below_cell P4 b2⟩ | exact ⟨Q.below_cell P5 b0, Q.below_cell P5 b1, Q.below_cell P5 b2⟩))
    ((first
      | (go_at_call 22; with_reducible refine (HT1.out _ (Q.below_drew _)).mono ?_; rintro e w3 ⟨rfl, hB3⟩; have P3 := Q.bt (Q.below_drew _) hB3; clear hB3)
      | (go_at_call 22; with_reducible refine (HT2.out _ P3).mono ?_; rintro e w4 ⟨rfl, hB4⟩; have P4 := Q.bt P3 hB4; clear hB4)
      | (go_at_call 22; with_reducible refine (HT3.out _ P4).mono ?_; rintro e w5 ⟨rfl, hB5⟩; have P5 := Q.bt P4 hB5; clear hB5)))
  go_upto_region 8 with fail
  have PP := Lib.hid P5
  have d0 := Q.below_cell P5 b0
  have d1 := Q.below_cell P5 b1
  have d2 := Q.below_cell P5 b2
  have BW5 := Lib.hid (BW2.out.trans (P5.mono BW2.out.size))
  clear hadd P3 P4 P5 HT1 HT2 HT3 b0 b1 b2 b3 b4 b5
  have hM1 : IntKind.i64.wrap (M + 1) = M + 1 := IntWalk.i64_in _ (by omega)
  have HA1 := Lib.hid (HA.out M)
  have HN1 := Lib.hid (HN.out M)
  have HT1 := Lib.hid (HTP.out M (M + 1))
  cases hf : T.find? (Q.pAt x1.kind x1.a x1.b M) with
  | some y =>
    have h1 := HNA.out (by rw [hf]; rfl)
    have h2 : Q.tick T x1.kind x1.a x1.b M (M + 1) = 1 := by have h := HONE.out; rw [hf] at h; simpa using h
    have e1 : Q.fstV T (Q.pAt x1.kind x1.a x1.b M) = .tuple #[y.v, .bool true] := by unfold Q.fstV; rw [hf]; rfl
    have e2 : Q.fstV T (Q.pNext x1.kind x1.a x1.b M) = .tuple #[y.v, .bool true] := by unfold Q.fstV; rw [h1, hf]; rfl
    rw [e1] at HA1
    rw [e2] at HN1
    rw [h2] at HT1
    clear hf h1 h2 e1 e2 HA HN HTP HONE HNA HGAP HTB
    generalize T.length = tl at *
    go_wp2_with (first
      | (go_at_call 18; with_reducible refine (HA1.out _ PP.out).mono ?_; rintro e w6 ⟨rfl, hB6⟩; have P6 := Q.bt PP.out hB6; have S6 := Q.bt P6 (Q.bel1 w6 (.cells #[.int .i64 y.kind, .int .i64 y.a, .int .i64 y.b, .int .i64 y.fr, .int .i64 y.un, .int .i64 y.rate] 31)); have q60 := Q.cell_under (.cells #[.int .i64 y.kind, .int .i64 y.a, .int .i64 y.b, .int .i64 y.fr, .int .i64 y.un, .int .i64 y.rate] 31) (Q.below_cell hB6 d0); have q61 := Q.cell_under (.cells #[.int .i64 y.kind, .int .i64 y.a, .int .i64 y.b, .int .i64 y.fr, .int .i64 y.un, .int .i64 y.rate] 31) (Q.below_cell hB6 d1); have q62 := Q.cell_under (.cells #[.int .i64 y.kind, .int .i64 y.a, .int .i64 y.b, .int .i64 y.fr, .int .i64 y.un, .int .i64 y.rate] 31) (Q.below_cell hB6 d2); have N6_6 := (Q.heap_top w6 (.cells #[.int .i64 y.kind, .int .i64 y.a, .int .i64 y.b, .int .i64 y.fr, .int .i64 y.un, .int .i64 y.rate] 31)))
      | (go_at_call 20; with_reducible refine (HN1.out _ S6).mono ?_; rintro e w7 ⟨rfl, hB7⟩; have P7 := Q.bt S6 hB7; have S7 := Q.bt P7 (Q.bel1 w7 (.cells #[.int .i64 y.kind, .int .i64 y.a, .int .i64 y.b, .int .i64 y.fr, .int .i64 y.un, .int .i64 y.rate] 31)); have q70 := Q.cell_under (.cells #[.int .i64 y.kind, .int .i64 y.a, .int .i64 y.b, .int .i64 y.fr, .int .i64 y.un, .int .i64 y.rate] 31) (Q.below_cell hB7 q60); have q71 := Q.cell_under (.cells #[.int .i64 y.kind, .int .i64 y.a, .int .i64 y.b, .int .i64 y.fr, .int .i64 y.un, .int .i64 y.rate] 31) (Q.below_cell hB7 q61); have q72 := Q.cell_under (.cells #[.int .i64 y.kind, .int .i64 y.a, .int .i64 y.b, .int .i64 y.fr, .int .i64 y.un, .int .i64 y.rate] 31) (Q.below_cell hB7 q62); have N7_7 := (Q.heap_top w7 (.cells #[.int .i64 y.kind, .int .i64 y.a, .int .i64 y.b, .int .i64 y.fr, .int .i64 y.un, .int .i64 y.rate] 31)); have N6_7 := Q.hup (.cells #[.int .i64 y.kind, .int .i64 y.a, .int .i64 y.b, .int .i64 y.fr, .int .i64 y.un, .int .i64 y.rate] 31) (Q.heap_keep hB7 N6_6))
      | (go_at_call 22; with_reducible refine (HT1.out _ S7).mono ?_; rintro e w8 ⟨rfl, hB8⟩; have P8 := Q.bt S7 hB8; have N7_8 := Q.heap_keep hB8 N7_7; have N6_8 := Q.heap_keep hB8 N6_7; obtain ⟨⟨m60, m61, m62, m63, m64, m65⟩, _⟩ := Q.row6 N6_8; obtain ⟨⟨m70, m71, m72, m73, m74, m75⟩, _⟩ := Q.row6 N7_8; have q80 := Q.below_cell hB8 q70; have q81 := Q.below_cell hB8 q71; have q82 := Q.below_cell hB8 q72)
      | (go_at_call 15; refine (HL.out _).mono ?_; rintro e w10 ⟨rfl, hB10⟩; have P10 := Q.bt P8 hB10; clear hB10))
    go_ret
    exact ⟨rfl, BW2.out.trans (P10.mono BW2.out.size)⟩
  | none =>
    have h2 : Q.tick T x1.kind x1.a x1.b M (M + 1) = 0 := by have h := HONE.out; rw [hf] at h; simpa using h
    have e1 : Q.fstV T (Q.pAt x1.kind x1.a x1.b M) = .tuple #[Q.zw.v, .bool false] := by unfold Q.fstV; rw [hf]; rfl
    rw [e1] at HA1
    rw [h2] at HT1
    cases hg : T.find? (Q.pNext x1.kind x1.a x1.b M) with
    | none =>
      have e2 : Q.fstV T (Q.pNext x1.kind x1.a x1.b M) = .tuple #[Q.zw.v, .bool false] := by unfold Q.fstV; rw [hg]; rfl
      rw [e2] at HN1
      clear hf hg h2 e1 e2 HA HN HTP HONE HNA HGAP HTB
      generalize T.length = tl at *
      generalize Q.zw = z at *
      go_wp2_with (first
        | (go_at_call 18; with_reducible refine (HA1.out _ PP.out).mono ?_; rintro e w6 ⟨rfl, hB6⟩; have P6 := Q.bt PP.out hB6; have S6 := Q.bt P6 (Q.bel1 w6 (.cells #[.int .i64 z.kind, .int .i64 z.a, .int .i64 z.b, .int .i64 z.fr, .int .i64 z.un, .int .i64 z.rate] 31)); have q60 := Q.cell_under (.cells #[.int .i64 z.kind, .int .i64 z.a, .int .i64 z.b, .int .i64 z.fr, .int .i64 z.un, .int .i64 z.rate] 31) (Q.below_cell hB6 d0); have q61 := Q.cell_under (.cells #[.int .i64 z.kind, .int .i64 z.a, .int .i64 z.b, .int .i64 z.fr, .int .i64 z.un, .int .i64 z.rate] 31) (Q.below_cell hB6 d1); have q62 := Q.cell_under (.cells #[.int .i64 z.kind, .int .i64 z.a, .int .i64 z.b, .int .i64 z.fr, .int .i64 z.un, .int .i64 z.rate] 31) (Q.below_cell hB6 d2); have N6_6 := (Q.heap_top w6 (.cells #[.int .i64 z.kind, .int .i64 z.a, .int .i64 z.b, .int .i64 z.fr, .int .i64 z.un, .int .i64 z.rate] 31)))
        | (go_at_call 20; with_reducible refine (HN1.out _ S6).mono ?_; rintro e w7 ⟨rfl, hB7⟩; have P7 := Q.bt S6 hB7; have S7 := Q.bt P7 (Q.bel1 w7 (.cells #[.int .i64 z.kind, .int .i64 z.a, .int .i64 z.b, .int .i64 z.fr, .int .i64 z.un, .int .i64 z.rate] 31)); have q70 := Q.cell_under (.cells #[.int .i64 z.kind, .int .i64 z.a, .int .i64 z.b, .int .i64 z.fr, .int .i64 z.un, .int .i64 z.rate] 31) (Q.below_cell hB7 q60); have q71 := Q.cell_under (.cells #[.int .i64 z.kind, .int .i64 z.a, .int .i64 z.b, .int .i64 z.fr, .int .i64 z.un, .int .i64 z.rate] 31) (Q.below_cell hB7 q61); have q72 := Q.cell_under (.cells #[.int .i64 z.kind, .int .i64 z.a, .int .i64 z.b, .int .i64 z.fr, .int .i64 z.un, .int .i64 z.rate] 31) (Q.below_cell hB7 q62); have N7_7 := (Q.heap_top w7 (.cells #[.int .i64 z.kind, .int .i64 z.a, .int .i64 z.b, .int .i64 z.fr, .int .i64 z.un, .int .i64 z.rate] 31)); have N6_7 := Q.hup (.cells #[.int .i64 z.kind, .int .i64 z.a, .int .i64 z.b, .int .i64 z.fr, .int .i64 z.un, .int .i64 z.rate] 31) (Q.heap_keep hB7 N6_6))
        | (go_at_call 22; with_reducible refine (HT1.out _ S7).mono ?_; rintro e w8 ⟨rfl, hB8⟩; have P8 := Q.bt S7 hB8; have N7_8 := Q.heap_keep hB8 N7_7; have N6_8 := Q.heap_keep hB8 N6_7; obtain ⟨⟨m60, m61, m62, m63, m64, m65⟩, _⟩ := Q.row6 N6_8; obtain ⟨⟨m70, m71, m72, m73, m74, m75⟩, _⟩ := Q.row6 N7_8; have q80 := Q.below_cell hB8 q70; have q81 := Q.below_cell hB8 q71; have q82 := Q.below_cell hB8 q72)
        | (go_at_call 15; refine (HL.out _).mono ?_; rintro e w10 ⟨rfl, hB10⟩; have P10 := Q.bt P8 hB10; clear hB10))
      go_ret
      exact ⟨rfl, BW2.out.trans (P10.mono BW2.out.size)⟩
    | some y =>
      obtain ⟨g1, g2⟩ := HGAP.out y hf hg
      have e2 : Q.fstV T (Q.pNext x1.kind x1.a x1.b M) = .tuple #[y.v, .bool true] := by unfold Q.fstV; rw [hg]; rfl
      rw [e2] at HN1
      have HT2 := Lib.hid (HTP.out M y.fr)
      rw [g2] at HT2
      clear hf hg h2 e1 e2 g2 HA HN HTP HONE HNA HGAP HTB
      generalize T.length = tl at *
      generalize Q.zw = z at *
      go_wp2_with (first
        | (go_at_call 18; with_reducible refine (HA1.out _ PP.out).mono ?_; rintro e w6 ⟨rfl, hB6⟩; have P6 := Q.bt PP.out hB6; have S6 := Q.bt P6 (Q.bel1 w6 (.cells #[.int .i64 z.kind, .int .i64 z.a, .int .i64 z.b, .int .i64 z.fr, .int .i64 z.un, .int .i64 z.rate] 31)); have q60 := Q.cell_under (.cells #[.int .i64 z.kind, .int .i64 z.a, .int .i64 z.b, .int .i64 z.fr, .int .i64 z.un, .int .i64 z.rate] 31) (Q.below_cell hB6 d0); have q61 := Q.cell_under (.cells #[.int .i64 z.kind, .int .i64 z.a, .int .i64 z.b, .int .i64 z.fr, .int .i64 z.un, .int .i64 z.rate] 31) (Q.below_cell hB6 d1); have q62 := Q.cell_under (.cells #[.int .i64 z.kind, .int .i64 z.a, .int .i64 z.b, .int .i64 z.fr, .int .i64 z.un, .int .i64 z.rate] 31) (Q.below_cell hB6 d2); have N6_6 := (Q.heap_top w6 (.cells #[.int .i64 z.kind, .int .i64 z.a, .int .i64 z.b, .int .i64 z.fr, .int .i64 z.un, .int .i64 z.rate] 31)))
        | (go_at_call 20; with_reducible refine (HN1.out _ S6).mono ?_; rintro e w7 ⟨rfl, hB7⟩; have P7 := Q.bt S6 hB7; have S7 := Q.bt P7 (Q.bel1 w7 (.cells #[.int .i64 y.kind, .int .i64 y.a, .int .i64 y.b, .int .i64 y.fr, .int .i64 y.un, .int .i64 y.rate] 31)); have q70 := Q.cell_under (.cells #[.int .i64 y.kind, .int .i64 y.a, .int .i64 y.b, .int .i64 y.fr, .int .i64 y.un, .int .i64 y.rate] 31) (Q.below_cell hB7 q60); have q71 := Q.cell_under (.cells #[.int .i64 y.kind, .int .i64 y.a, .int .i64 y.b, .int .i64 y.fr, .int .i64 y.un, .int .i64 y.rate] 31) (Q.below_cell hB7 q61); have q72 := Q.cell_under (.cells #[.int .i64 y.kind, .int .i64 y.a, .int .i64 y.b, .int .i64 y.fr, .int .i64 y.un, .int .i64 y.rate] 31) (Q.below_cell hB7 q62); have N7_7 := (Q.heap_top w7 (.cells #[.int .i64 y.kind, .int .i64 y.a, .int .i64 y.b, .int .i64 y.fr, .int .i64 y.un, .int .i64 y.rate] 31)); have N6_7 := Q.hup (.cells #[.int .i64 y.kind, .int .i64 y.a, .int .i64 y.b, .int .i64 y.fr, .int .i64 y.un, .int .i64 y.rate] 31) (Q.heap_keep hB7 N6_6))
        | (go_at_call 22; with_reducible refine (HT1.out _ S7).mono ?_; rintro e w8 ⟨rfl, hB8⟩; have P8 := Q.bt S7 hB8; have N7_8 := Q.heap_keep hB8 N7_7; have N6_8 := Q.heap_keep hB8 N6_7; obtain ⟨⟨m60, m61, m62, m63, m64, m65⟩, _⟩ := Q.row6 N6_8; obtain ⟨⟨m70, m71, m72, m73, m74, m75⟩, _⟩ := Q.row6 N7_8; have q80 := Q.below_cell hB8 q70; have q81 := Q.below_cell hB8 q71; have q82 := Q.below_cell hB8 q72)
        | (go_at_call 22; with_reducible refine (HT2.out _ P8).mono ?_; rintro e w9 ⟨rfl, hB9⟩; have P9 := Q.bt P8 hB9)
        | (go_at_call 15; refine (HL.out _).mono ?_; rintro e w10 ⟨rfl, hB10⟩; have P10 := Q.bt P9 hB10; clear hB10))
      go_ret
      exact ⟨rfl, BW2.out.trans (P10.mono BW2.out.size)⟩

set_option maxRecDepth 100000 in
theorem lifted (os : Os) (started : os.Started) (H0 : Type) (enc : TypeId × Value → H0) :
    ReturnsInHanded {} Try.checked os 12 .any (Rows.orbitPeriodsSpec.pre6 enc Try.prog Try.f12 Rows.orbitPeriodsRow.domain false) (Rows.orbitPeriodsSpec.post enc Try.prog Try.f12 false true false false) := by
  refine returnsInHanded_of_change_sized (C := Try.checked) Go.Proofs.Ytojflmejkigdiaa.O.own started (by kernel_rfl) Try.func12
    (ChangeSpec.witness6 (enc := enc) (C := Try.checked) false ⟨#[], #[.slice none 0 0, .agg #[.int .i64 0, .int .i64 0, .int .i64 0, .int .i64 0, .int .i64 0, .int .i64 0]], []⟩ 8 (by kernel_rfl) (by kernel_rfl) (by kernel_rfl) (by kernel_rfl)) ?_
  intro W base args ds gs before hval0 hW hcnd hsz0 _
  have hsz : (DataW.weightsEach Try.prog (Try.f12.params.toList ++ Rows.orbitPeriodsSpec.plain.varTypes Try.prog) (ds ++ gs)).all (· ≤ reachBytes) = true := hsz0
  clear hsz0
  have hval : ∀ (j : Nat) t v, Try.f12.params[j]? = some t → args[j]? = some v → Value.okWide Try.prog W .any base t v := hval0
  have hW' := hW
  obtain ⟨p, q, hA0, hV, rfl, hfz, hnd⟩ := hW
  have hA : DataW.TrodAll enc Try.prog W 0 (fun _ => true) true Try.f12.params.toList args.toList ds p := hA0
  rw [Try.params12] at hA hval hsz
  obtain ⟨v0, vs0, d0, ds0, p0, q0, hargs, rfl, rfl, h0, r0⟩ := trodAll_cons hA
  obtain ⟨v1, vs1, d1, ds1, p1, q1, rfl, rfl, rfl, h1, r1⟩ := trodAll_cons r0
  obtain ⟨rfl, rfl, rfl⟩ := trodAll_nil r1
  obtain rfl : args = #[v0, v1] := by cases args; simp_all
  obtain ⟨rfl, rfl⟩ := trodVars_none hV
  obtain ⟨a0, n0, c0, rfl⟩ := okWide_slice Try.underlying27 (hval 0 27 v0 rfl rfl)
  have k0 := h0
  have lt0 : ∀ x ∈ p0, x.block < W.heap.size := by obtain ⟨m, hm⟩ := k0; exact DataW.trod_lt m _ _ _ hm
  obtain ⟨z0, l0, cp0, cq0, nz0, rd0, wf0, bj0⟩ := Go.Proofs.Ytojflmejkigdiaa.O.open_isT Try.underlying27 Try.underlying3 (by kernel_rfl) h0
  have el0 := Go.Proofs.Ytojflmejkigdiaa.O.open_el Try.underlying27 Try.underlying3 (by kernel_rfl) k0
  have k1 := h1
  have lt1 : ∀ x ∈ p1, x.block < W.heap.size := by obtain ⟨m, hm⟩ := k1; exact DataW.trod_lt m _ _ _ hm
  obtain ⟨x1, rfl, ok1⟩ := Go.Proofs.Ytojflmejkigdiaa.Q.open_Qy (hval 1 34 v1 rfl rfl) h1
  clear hA0 hval0
  have r0 : z0.length * 8 ≤ 140737488351232 := by
    rcases el0 with h | ⟨es, sp, h, hle⟩
    · omega
    · have hr := sized_slice hsz (j := 0) (t := 27) (e := 3) (elems := es) (spare := sp) rfl (by simp [h]) Try.underlying27
      rw [show Try.prog.bytesOf 3 = 8 from by kernel_rfl] at hr
      simp only [reachBytes] at hr
      omega
  refine (walk a0 n0 c0 z0 x1 W l0 ⟨cp0, cq0⟩ nz0 rd0 wf0 r0 ok1).mono fun e W' ⟨he, bel⟩ => ?_
  subst he
  exact ⟨_, rfl, _, _, _, [], _, [], hW', trodAll_mk1 (shut_bool Try.underlying4 _), (trodAll_cons_mk (Below.trod Go.Proofs.Ytojflmejkigdiaa.O.laidOut (by kernel_rfl) (of_decide_eq_true (by kernel_rfl)) k0 bel lt0) (trodAll_cons_mk (Below.trod Go.Proofs.Ytojflmejkigdiaa.O.laidOut (by kernel_rfl) (of_decide_eq_true (by kernel_rfl)) k1 bel lt1) trodAll_mk0)), rfl, bel.frame _, fun h => by cases h⟩

/-- ████ THE STATEMENT ████ -/
theorem proved : Rows.OrbitPeriodsSaid :=
  OpenClaim.holds_of_wide 12 Try.f12 rfl rfl rfl rfl rfl rfl rfl ⟨rfl, rfl, rfl, rfl, rfl⟩ rfl rfl rfl rfl rfl (by kernel_rfl) Try.func12 (by kernel_rfl)
    (of_decide_eq_true (by kernel_rfl)) (by unfold Func.isWrapper; first | (rw [if_pos (by decide +kernel)]; kernel_rfl) | (rw [if_neg (by decide +kernel)]; exact ⟨rfl, rfl⟩))
    (fun os started H0 enc _ => lifted os started H0 enc)
end Go.Proofs.Ytojflmejkigdiaa.orbitPeriods
