/-
  For every word, EccCorrects returns true: the code word decodes to the word, clean, and with any one of its 39 bits inverted to the word, corrected; and the chapter's examples hold.
-/
import Derived.Test.YtbhefdincmfmjaaDoorELaw
import Derived.Test.YtbhefdincmfmjaaDoorAround
import Derived.Deep.DeepCutAuto
import Derived.Deep.RegionHeld3
import Derived.Deep.LoopGhost
import Derived.Deep.QuietTactic
namespace Go.Proofs.YtbhefdincmfmjaaDoor.eccCorrects
open Go.ChangeShapes Go.WideShapes Go.ChangeAt Go.RowKit
open Go.ChangeMaps (open_string shut_string)
set_option linter.unusedVariables false

set_option maxRecDepth 100000 in
set_option maxHeartbeats 1000000 in
theorem walk (a0 : Int) (w : World) (tb : E.Tab w) (w0 : (Lit.int .u32 a0).wf = true) :
    Calls Tryd.prog 7 #[.int .u32 a0] w fun e w' => e = .returned (.bool true) ∧ Below w.heap.size w w' := by
  obtain ⟨v, rfl, hv⟩ := E.u32_nat_of w0
  have hE := E.enc_ok hv
  have hlt := hE.lt
  have HP := Lib.hid (E.penc_any v hv w tb)
  have HD := Lib.hid (fun n => E.pdec_any (E.enc v) (by omega) (w.drewN n) (tb.drewN n))
  rw [E.dec_enc hE] at HD
  have HF := Lib.hid (fun (k : Nat) (hk : k < 39) W => E.pflip_any (E.enc v) k (by omega) W)
  have HX := Lib.hid (fun (k : Nat) (hk : k < 39) n => E.pdec_any (E.flip (E.enc v) k) (E.flip_lt (by omega) _) (w.drewN n) (tb.drewN n))
  have HQ := Lib.hid (fun (k : Nat) (hk : k < 39) => E.dec_one hE hk)
  have HL := Lib.hid (fun n => E.plives_any (w.drewN n) (tb.drewN n))
  clear w0 tb hv hE hlt
  generalize E.enc v = x at *
  dsimp only at HD
  go_enter Tryd.func7, Tryd.ntmps7
  go_wp2_with fail
  refine (HP.out).mono ?_
  rintro r w1 ⟨rfl, n, rfl⟩
  go_wp2_with fail
  refine (HD.out n).mono ?_
  rintro r w1 ⟨rfl, rfl⟩
  generalize hW : w.drewN n = w1 at *
  have HW := Lib.hid hW
  clear hW
  go_wp2_with fail
  go_loopg [4, 5, 6] 39 (fun g v s i wr => ∃ k : Nat, k + g = 39 ∧ i = .int .i64 k ∧ wr = w1)
  case atStart => exact ⟨0, by omega, rfl, rfl⟩
  case round =>
    obtain ⟨k, hg, rfl, rfl⟩ := hrel
    have HG := Lib.hid hg
    have hk : k ≤ 39 := by omega
    clear hg
    by_cases hlt : k < 39
    · have hi : (k : Int) < 39 := by omega
      have hf := HF.out k hlt wr
      have hx := HX.out k hlt n
      rw [HW.out, E.flip_in x (b := k) (by omega), HQ.out k hlt] at hx
      rw [E.flip_in x (b := k) (by omega)] at hf
      have HHF := Lib.hid hf
      have HHX := Lib.hid hx
      generalize x ^^^ 2 ^ k = y at *
      clear hlt hf hx
      dsimp only at HHX
      go_wp2_with fail
      refine (HHF.out).mono ?_
      rintro r w1 ⟨rfl, rfl⟩
      go_wp2_with fail
      refine (HHX.out).mono ?_
      rintro r w1 ⟨rfl, rfl⟩
      go_wp2_with fail
      go_roundg (gk - 1)
      case measure => have := HG.out; omega
      case rel => exact ⟨k + 1, by have := HG.out; omega, by go_num, rfl⟩
    · obtain rfl : k = 39 := by omega
      clear hlt hk
      go_wp2_with fail
      have hl := HL.out n
      rw [HW.out] at hl
      refine hl.mono ?_
      clear hl
      rintro r w2 ⟨rfl, m, rfl⟩
      go_wp2_with fail
      go_ret
      exact ⟨rfl, by rw [← HW.out]; exact below_drewN (below_drewN (Below.refl _ _) _) _⟩

theorem reads (os : Os) {H0 : Type} (enc : TypeId × Value → H0) : ∃ places, DataW.whole enc Tryd.prog ((Go.Proofs.YtbhefdincmfmjaaDoor.E.laidWorld os).forCall (fun _ _ => 0) ⟨#[], #[.int .u32 0], []⟩).memory Tryd.f7.params.toList Rows.eccCorrectsSpec.vars false (#[.int .u32 0] : Array Value).toList 8 = some ([.lit (.int .u32 0)], [], places) :=
  ⟨[], by kernel_rfl⟩
set_option maxRecDepth 100000 in
theorem lifted (os : Os) (started : os.Started) (H0 : Type) (enc : TypeId × Value → H0) (F0 : Stop.Interp) :
    ReturnsInHanded {} Tryd.checked os 7 .any ((OpenSpec.ofChange Rows.eccCorrectsSpec).preRow enc Tryd.prog Tryd.f7 Rows.eccCorrectsRow.domain false Rows.eccCorrectsRow.laid) (((OpenSpec.ofChange Rows.eccCorrectsSpec).at F0).post enc Tryd.prog Tryd.f7 false true false false) := by
  obtain ⟨places, hx⟩ := reads os enc
  refine returnsInHanded_of_row (C := Tryd.checked) (s := (OpenSpec.ofChange Rows.eccCorrectsSpec)) Go.Proofs.YtbhefdincmfmjaaDoor.O.own started (by kernel_rfl) Tryd.func7
    (witness_row_at (enc := enc) (C := Tryd.checked) false (Go.Proofs.YtbhefdincmfmjaaDoor.E.laidWorld os) #[.int .u32 0] rfl (by kernel_rfl) (by kernel_rfl) (by kernel_rfl)
      (OpenSpec.preRow_of_cond 8 hx (by kernel_rfl) (fun k hk => by cases hk) (by kernel_rfl) (Go.Proofs.YtbhefdincmfmjaaDoor.E.laid_met os _))) ?_
  intro W base args ds gs before hval0 hW _ hk0 hsz0 hL _ _
  have hsz : (DataW.weightsEach Tryd.prog (Tryd.f7.params.toList ++ (OpenSpec.ofChange Rows.eccCorrectsSpec).bare.plain.varTypes Tryd.prog) (ds ++ gs)).all (· ≤ reachBytes) = true := hsz0
  clear hsz0
  have hval : ∀ (j : Nat) t v, Tryd.f7.params[j]? = some t → args[j]? = some v → Value.okWide Tryd.prog W .any base t v := hval0
  have hW' := hW
  obtain ⟨p, q, hA0, hV, rfl, hfz, hnd⟩ := hW
  have hA : DataW.TrodAll enc Tryd.prog W 0 (fun _ => true) true Tryd.f7.params.toList args.toList ds p := hA0
  rw [Tryd.params7] at hA hval hsz
  obtain ⟨v0, vs0, d0, ds0, p0, q0, hargs, rfl, rfl, h0, r0⟩ := trodAll_cons hA
  obtain ⟨rfl, rfl, rfl⟩ := trodAll_nil r0
  obtain rfl : args = #[v0] := by cases args; simp_all
  obtain ⟨rfl, rfl⟩ := trodVars_none hV
  obtain ⟨a0, rfl, rfl, rfl, w0⟩ := open_int Tryd.underlying22 (hval 0 22 v0 rfl rfl) h0
  clear hA0 hval0
  have tb := Go.Proofs.YtbhefdincmfmjaaDoor.E.tab_of_laid hL
  refine (walk a0 W tb w0).mono fun e W' ⟨he, bel⟩ => ?_
  subst he
  exact ⟨_, rfl, _, _, _, [], _, [], hW', trodAll_mk1 (shut_bool Tryd.underlying4 _), (trodAll_cons_mk (shut_int Tryd.underlying22 w0) trodAll_mk0), rfl, bel.frame _, fun h => by cases h⟩

theorem said : Rows.EccCorrectsSaid :=
  OpenClaim.holds_of_cond 7 Tryd.f7 rfl rfl rfl rfl rfl rfl rfl ⟨rfl, rfl, rfl, rfl, rfl⟩ rfl rfl rfl rfl rfl (by kernel_rfl) Tryd.func7 (by kernel_rfl)
    (of_decide_eq_true (by kernel_rfl)) (by unfold Func.isWrapper; first | (rw [if_pos (by decide +kernel)]; kernel_rfl) | (rw [if_neg (by decide +kernel)]; exact ⟨rfl, rfl⟩))
    (fun os started H0 enc _ F0 => by rw [OpenClaim.pre_eq_preRow]; exact lifted os started H0 enc F0)
theorem plain (f : FuncId) (fn : Func) (hf : Tryd.pinned.checked.prog.funcNamed "perigee/perigeelaw05.EccCorrects" = some f) (hfn : Tryd.pinned.checked.prog.funcs[f]? = some fn) :
    false = Tryd.pinned.checked.prog.looks [] ∧ ∀ (j : Nat) t, fn.params[j]? = some t → Tryd.pinned.checked.prog.wantsStandIn t = false := by
  obtain rfl : f = 7 := Option.some.inj ((show Tryd.prog.funcNamed "perigee/perigeelaw05.EccCorrects" = some 7 by kernel_rfl).symm.trans hf) |>.symm
  obtain rfl : fn = Tryd.f7 := (Option.some.inj (Tryd.func7.symm.trans hfn)).symm
  refine ⟨by kernel_rfl, fun j t ht => ?_⟩
  rw [Tryd.params7] at ht
  have hm : t ∈ [22] := by simpa using Array.mem_of_getElem? ht
  have hall : ([22].all fun u => !Tryd.prog.wantsStandIn u) = true := by kernel_rfl
  exact (show Tryd.prog.wantsStandIn t = false by simpa using List.all_eq_true.1 hall t hm)
/-- ████ THE CARD ████ -/
theorem proved : Rows.EccCorrectsCardSaid :=
  Claim7.holds_tied_plain_at .later [] _ _ _ _ said (fun _ h => by cases h) (by kernel_rfl) (fun _ h => by cases h) eccCorrects_row_tie rfl ⟨rfl, rfl⟩ (by kernel_rfl) rfl plain (by kernel_rfl)
end Go.Proofs.YtbhefdincmfmjaaDoor.eccCorrects
