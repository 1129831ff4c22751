/-
  For every word and every number of a bit, EccDetects returns true: the code word with that bit and any other one of its 39 bits inverted is uncorrectable; and the chapter's examples hold.
-/
import Derived.Test.YtbhefdincmfmjaaDoorELaw
import Derived.Test.YtbhefdincmfmjaaDoorAround
import Derived.Deep.DeepCutAuto
import Derived.Deep.RegionHeld3
import Derived.Deep.LoopGhost
import Derived.Deep.QuietTactic
namespace Go.Proofs.YtbhefdincmfmjaaDoor.eccDetects
open Go.ChangeShapes Go.WideShapes Go.ChangeAt Go.RowKit
open Go.ChangeMaps (open_string shut_string)
set_option linter.unusedVariables false

set_option maxRecDepth 100000 in
set_option maxHeartbeats 1000000 in
theorem walk (a0 : Int) (a1 : Int) (w : World) (tb : E.Tab w) (w0 : (Lit.int .u32 a0).wf = true) (w1 : (Lit.int .i64 a1).wf = true) :
    Calls Tryd.prog 8 #[.int .u32 a0, .int .i64 a1] w fun e w' => e = .returned (.bool true) ∧ Below w.heap.size w w' := by
  obtain ⟨v, rfl, hv⟩ := E.u32_nat_of w0
  have hr := E.i64_range w1
  have hE := E.enc_ok hv
  have hlt := hE.lt
  have HA := Lib.hid (H.around_any a1 39 hr.1 hr.2 (by decide) (by decide) w)
  obtain ⟨f, hfe, hf39⟩ := H.around_nat a1 (m := 39) (by decide)
  rw [show H.around a1 39 = (f : Int) from hfe] at HA
  have HP := Lib.hid (E.penc_any v hv w tb)
  have HF0 := Lib.hid (fun W => E.pflip_any (E.enc v) f (by omega) W)
  rw [E.flip_in _ (b := f) (by omega)] at HF0
  have hcl : E.enc v ^^^ 2 ^ f < 18446744073709551616 := by
    have := E.flip_lt (c := E.enc v) (by omega) f
    rwa [E.flip_in _ (b := f) (by omega)] at this
  have HF := Lib.hid (fun (k : Nat) (hk : k < 39) W => E.pflip_any (E.enc v ^^^ 2 ^ f) k hcl W)
  have HX := Lib.hid (fun (k : Nat) (hk : k < 39) n => E.pdec_any (E.flip (E.enc v ^^^ 2 ^ f) k) (E.flip_lt hcl _) (w.drewN n) (tb.drewN n))
  have HQ := Lib.hid (fun (k : Nat) (hk : k < 39) (hne : k ≠ f) => E.dec_two hE hf39 hk (fun e => hne e.symm))
  have HL := Lib.hid (fun n => E.plives_any (w.drewN n) (tb.drewN n))
  clear w0 w1 tb hv hE hlt hr hfe hcl
  generalize E.enc v ^^^ 2 ^ f = x at *
  generalize E.enc v = x0 at *
  go_enter Tryd.func8, Tryd.ntmps8
  go_wp2_with fail
  refine (HA.out).mono ?_
  rintro r w ⟨rfl, rfl⟩
  go_wp2_with fail
  refine (HP.out).mono ?_
  rintro r w1 ⟨rfl, n, rfl⟩
  go_wp2_with fail
  refine (HF0.out _).mono ?_
  rintro r w1 ⟨rfl, rfl⟩
  generalize hW : w.drewN n = w1 at *
  have HW := Lib.hid hW
  clear hW
  go_wp2_with fail
  go_loopg [8, 9, 7] 39 (fun g v s i wr => ∃ k : Nat, k + g = 39 ∧ i = .int .i64 k ∧ wr = w1)
  case atStart => exact ⟨0, by omega, rfl, rfl⟩
  case round =>
    obtain ⟨k, hg, rfl, rfl⟩ := hrel
    have HG := Lib.hid hg
    have hk : k ≤ 39 := by omega
    clear hg
    by_cases hlt : k < 39
    · have hi : (k : Int) < 39 := by omega
      have hf := HF.out k hlt wr
      have hx := HX.out k hlt n
      rw [HW.out] at hx
      rw [E.flip_in x (b := k) (by omega)] at hf hx
      by_cases hkf : k = f
      · have hne : ((k : Int) != (f : Int)) = false := by simp [hkf]
        have HHF := Lib.hid hf
        have HHX := Lib.hid hx
        generalize x ^^^ 2 ^ k = y at *
        generalize E.dec y = z at *
        obtain ⟨z1, z2⟩ := z
        dsimp only at HHX
        clear hlt hf hx hkf
        go_wp2_with fail
        refine (HHF.out).mono ?_
        rintro r w1 ⟨rfl, rfl⟩
        go_wp2_with fail
        refine (HHX.out).mono ?_
        rintro r w1 ⟨rfl, rfl⟩
        go_wp2_with fail
        go_roundg (gk - 1)
        case measure => have := HG.out; omega
        case rel => exact ⟨k + 1, by have := HG.out; omega, by go_num, rfl⟩
      · have hne : ((k : Int) != (f : Int)) = true := by simp; omega
        rw [HQ.out k hlt hkf] at hx
        have HHF := Lib.hid hf
        have HHX := Lib.hid hx
        generalize x ^^^ 2 ^ k = y at *
        dsimp only at HHX
        clear hlt hf hx hkf
        go_wp2_with fail
        refine (HHF.out).mono ?_
        rintro r w1 ⟨rfl, rfl⟩
        go_wp2_with fail
        refine (HHX.out).mono ?_
        rintro r w1 ⟨rfl, rfl⟩
        go_wp2_with fail
        go_roundg (gk - 1)
        case measure => have := HG.out; omega
        case rel => exact ⟨k + 1, by have := HG.out; omega, by go_num, rfl⟩
    · obtain rfl : k = 39 := by omega
      clear hlt hk
      go_wp2_with fail
      have hl := HL.out n
      rw [HW.out] at hl
      refine hl.mono ?_
      clear hl
      rintro r w2 ⟨rfl, m, rfl⟩
      go_wp2_with fail
      go_ret
      exact ⟨rfl, by rw [← HW.out]; exact below_drewN (below_drewN (Below.refl _ _) _) _⟩

theorem reads (os : Os) {H0 : Type} (enc : TypeId × Value → H0) : ∃ places, DataW.whole enc Tryd.prog ((Go.Proofs.YtbhefdincmfmjaaDoor.E.laidWorld os).forCall (fun _ _ => 0) ⟨#[], #[.int .u32 0, .int .i64 0], []⟩).memory Tryd.f8.params.toList Rows.eccDetectsSpec.vars false (#[.int .u32 0, .int .i64 0] : Array Value).toList 8 = some ([.lit (.int .u32 0), .lit (.int .i64 0)], [], places) :=
  ⟨[], by kernel_rfl⟩
set_option maxRecDepth 100000 in
theorem lifted (os : Os) (started : os.Started) (H0 : Type) (enc : TypeId × Value → H0) (F0 : Stop.Interp) :
    ReturnsInHanded {} Tryd.checked os 8 .any ((OpenSpec.ofChange Rows.eccDetectsSpec).preRow enc Tryd.prog Tryd.f8 Rows.eccDetectsRow.domain false Rows.eccDetectsRow.laid) (((OpenSpec.ofChange Rows.eccDetectsSpec).at F0).post enc Tryd.prog Tryd.f8 false true false false) := by
  obtain ⟨places, hx⟩ := reads os enc
  refine returnsInHanded_of_row (C := Tryd.checked) (s := (OpenSpec.ofChange Rows.eccDetectsSpec)) Go.Proofs.YtbhefdincmfmjaaDoor.O.own started (by kernel_rfl) Tryd.func8
    (witness_row_at (enc := enc) (C := Tryd.checked) false (Go.Proofs.YtbhefdincmfmjaaDoor.E.laidWorld os) #[.int .u32 0, .int .i64 0] rfl (by kernel_rfl) (by kernel_rfl) (by kernel_rfl)
      (OpenSpec.preRow_of_cond 8 hx (by kernel_rfl) (fun k hk => by cases hk) (by kernel_rfl) (Go.Proofs.YtbhefdincmfmjaaDoor.E.laid_met os _))) ?_
  intro W base args ds gs before hval0 hW _ hk0 hsz0 hL _ _
  have hsz : (DataW.weightsEach Tryd.prog (Tryd.f8.params.toList ++ (OpenSpec.ofChange Rows.eccDetectsSpec).bare.plain.varTypes Tryd.prog) (ds ++ gs)).all (· ≤ reachBytes) = true := hsz0
  clear hsz0
  have hval : ∀ (j : Nat) t v, Tryd.f8.params[j]? = some t → args[j]? = some v → Value.okWide Tryd.prog W .any base t v := hval0
  have hW' := hW
  obtain ⟨p, q, hA0, hV, rfl, hfz, hnd⟩ := hW
  have hA : DataW.TrodAll enc Tryd.prog W 0 (fun _ => true) true Tryd.f8.params.toList args.toList ds p := hA0
  rw [Tryd.params8] at hA hval hsz
  obtain ⟨v0, vs0, d0, ds0, p0, q0, hargs, rfl, rfl, h0, r0⟩ := trodAll_cons hA
  obtain ⟨v1, vs1, d1, ds1, p1, q1, rfl, rfl, rfl, h1, r1⟩ := trodAll_cons r0
  obtain ⟨rfl, rfl, rfl⟩ := trodAll_nil r1
  obtain rfl : args = #[v0, v1] := by cases args; simp_all
  obtain ⟨rfl, rfl⟩ := trodVars_none hV
  obtain ⟨a0, rfl, rfl, rfl, w0⟩ := open_int Tryd.underlying22 (hval 0 22 v0 rfl rfl) h0
  obtain ⟨a1, rfl, rfl, rfl, w1⟩ := open_int Tryd.underlying3 (hval 1 3 v1 rfl rfl) h1
  clear hA0 hval0
  have tb := Go.Proofs.YtbhefdincmfmjaaDoor.E.tab_of_laid hL
  refine (walk a0 a1 W tb w0 w1).mono fun e W' ⟨he, bel⟩ => ?_
  subst he
  exact ⟨_, rfl, _, _, _, [], _, [], hW', trodAll_mk1 (shut_bool Tryd.underlying4 _), (trodAll_cons_mk (shut_int Tryd.underlying22 w0) (trodAll_cons_mk (shut_int Tryd.underlying3 w1) trodAll_mk0)), rfl, bel.frame _, fun h => by cases h⟩

theorem said : Rows.EccDetectsSaid :=
  OpenClaim.holds_of_cond 8 Tryd.f8 rfl rfl rfl rfl rfl rfl rfl ⟨rfl, rfl, rfl, rfl, rfl⟩ rfl rfl rfl rfl rfl (by kernel_rfl) Tryd.func8 (by kernel_rfl)
    (of_decide_eq_true (by kernel_rfl)) (by unfold Func.isWrapper; first | (rw [if_pos (by decide +kernel)]; kernel_rfl) | (rw [if_neg (by decide +kernel)]; exact ⟨rfl, rfl⟩))
    (fun os started H0 enc _ F0 => by rw [OpenClaim.pre_eq_preRow]; exact lifted os started H0 enc F0)
theorem plain (f : FuncId) (fn : Func) (hf : Tryd.pinned.checked.prog.funcNamed "perigee/perigeelaw05.EccDetects" = some f) (hfn : Tryd.pinned.checked.prog.funcs[f]? = some fn) :
    false = Tryd.pinned.checked.prog.looks [] ∧ ∀ (j : Nat) t, fn.params[j]? = some t → Tryd.pinned.checked.prog.wantsStandIn t = false := by
  obtain rfl : f = 8 := Option.some.inj ((show Tryd.prog.funcNamed "perigee/perigeelaw05.EccDetects" = some 8 by kernel_rfl).symm.trans hf) |>.symm
  obtain rfl : fn = Tryd.f8 := (Option.some.inj (Tryd.func8.symm.trans hfn)).symm
  refine ⟨by kernel_rfl, fun j t ht => ?_⟩
  rw [Tryd.params8] at ht
  have hm : t ∈ [22, 3] := by simpa using Array.mem_of_getElem? ht
  have hall : ([22, 3].all fun u => !Tryd.prog.wantsStandIn u) = true := by kernel_rfl
  exact (show Tryd.prog.wantsStandIn t = false by simpa using List.all_eq_true.1 hall t hm)
/-- ████ THE CARD ████ -/
theorem proved : Rows.EccDetectsCardSaid :=
  Claim7.holds_tied_plain_at .later [] _ _ _ _ said (fun _ h => by cases h) (by kernel_rfl) (fun _ h => by cases h) eccDetects_row_tie rfl ⟨rfl, rfl⟩ (by kernel_rfl) rfl plain (by kernel_rfl)
end Go.Proofs.YtbhefdincmfmjaaDoor.eccDetects
