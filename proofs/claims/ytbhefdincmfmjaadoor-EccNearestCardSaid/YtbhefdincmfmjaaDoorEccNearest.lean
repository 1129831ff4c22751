/-
  For every code word and every word v, EccNearest returns true: a clean or a corrected code word has the distance 0 or 1 to the code word of its word, and an uncorrectable one without a bit above bit 38 at least the distance 2 to the code word of v; and the chapter's examples hold.
-/
import Derived.Test.YtbhefdincmfmjaaDoorELaw
import Derived.Test.YtbhefdincmfmjaaDoorAround
import Derived.Deep.DeepCutAuto
import Derived.Deep.RegionHeld3
import Derived.Deep.LoopGhost
import Derived.Deep.QuietTactic
namespace Go.Proofs.YtbhefdincmfmjaaDoor.eccNearest
open Go.ChangeShapes Go.WideShapes Go.ChangeAt Go.RowKit
open Go.ChangeMaps (open_string shut_string)
set_option linter.unusedVariables false

set_option maxRecDepth 100000 in
set_option maxHeartbeats 1000000 in
theorem walk (a0 : Int) (a1 : Int) (w : World) (tb : E.Tab w) (w0 : (Lit.int .u64 a0).wf = true) (w1 : (Lit.int .u32 a1).wf = true) :
    Calls Tryd.prog 11 #[.int .u64 a0, .int .u32 a1] w fun e w' => e = .returned (.bool true) ∧ Below w.heap.size w w' := by
  obtain ⟨c, rfl, hc⟩ := E.u64_nat_of w0
  obtain ⟨v, rfl, hv⟩ := E.u32_nat_of w1
  have hdl := E.dec_lt c
  have hdle := E.dec_le c
  have hve := E.enc_ok hv
  have hde := E.enc_ok hdl
  have hvl := hve.lt
  have hel := hde.lt
  have hclean := E.dec_clean (c := c)
  have hcorr := E.dec_corr (c := c)
  have hnear : c < 2 ^ 39 → (E.dec c).2 = 2 → 2 ≤ E.dist c (E.enc v) := fun h1 h2 => E.near h1 h2 hve
  have h0 : (E.dec c).2 = 0 → E.dist c (E.enc (E.dec c).1) = 0 := fun h => by rw [← (hclean h).2.eq hde]; exact E.dist_self c
  have h1 : (E.dec c).2 = 1 → E.dist c (E.enc (E.dec c).1) = 1 := fun h => by
    obtain ⟨i, hi, he⟩ := hcorr h
    rw [← he.eq hde]
    exact E.dist_flip c (by omega)
  have HP := Lib.hid (E.pdec_any c hc w tb)
  have HP2 := Lib.hid (E.penc_any (E.dec c).1 hdl w tb)
  have HD2 := Lib.hid (fun W => E.pdist_any c (E.enc (E.dec c).1) hc (by omega) W)
  have HV := Lib.hid (fun n => E.penc_any v hv (w.drewN n) (tb.drewN n))
  have HFD := Lib.hid (fun W => E.pdist_any c (E.enc v) hc (by omega) W)
  have HL := Lib.hid (fun n => E.plives_any (w.drewN n) (tb.drewN n))
  clear w0 w1 tb hc hv hve hde hvl hel hdl hclean hcorr
  generalize E.dist c (E.enc (E.dec c).1) = d at *
  generalize E.dist c (E.enc v) = far at *
  generalize E.enc (E.dec c).1 = x at *
  generalize E.enc v = y at *
  generalize E.dec c = z at *
  obtain ⟨p, s⟩ := z
  dsimp only at *
  by_cases hs0 : s = 0
  · subst hs0
    have hd := h0 rfl
    subst hd
    clear h0 h1 hnear hdle
    go_enter Tryd.func11, Tryd.ntmps11
    go_wp2_with fail
    refine (HP.out).mono ?_
    rintro r w1 ⟨rfl, rfl⟩
    go_wp2_with fail
    refine (HP2.out).mono ?_
    rintro r w1 ⟨rfl, n, rfl⟩
    go_wp2_with fail
    refine (HD2.out _).mono ?_
    rintro r w1 ⟨rfl, rfl⟩
    go_wp2_with fail
    refine (HV.out n).mono ?_
    rintro r w1 ⟨rfl, m, rfl⟩
    go_wp2_with fail
    refine (HFD.out _).mono ?_
    rintro r w1 ⟨rfl, rfl⟩
    go_wp2_with fail
    refine (HL.out _).mono ?_
    rintro r w1 ⟨rfl, k, rfl⟩
    go_wp2_with fail
    go_ret
    exact ⟨rfl, below_drewN (Below.refl _ _) _⟩
  · by_cases hs1 : s = 1
    · subst hs1
      have hd := h1 rfl
      subst hd
      clear h0 h1 hnear hdle hs0
      go_enter Tryd.func11, Tryd.ntmps11
      go_wp2_with fail
      refine (HP.out).mono ?_
      rintro r w1 ⟨rfl, rfl⟩
      go_wp2_with fail
      refine (HP2.out).mono ?_
      rintro r w1 ⟨rfl, n, rfl⟩
      go_wp2_with fail
      refine (HD2.out _).mono ?_
      rintro r w1 ⟨rfl, rfl⟩
      go_wp2_with fail
      refine (HV.out n).mono ?_
      rintro r w1 ⟨rfl, m, rfl⟩
      go_wp2_with fail
      refine (HFD.out _).mono ?_
      rintro r w1 ⟨rfl, rfl⟩
      go_wp2_with fail
      refine (HL.out _).mono ?_
      rintro r w1 ⟨rfl, k, rfl⟩
      go_wp2_with fail
      go_ret
      exact ⟨rfl, below_drewN (Below.refl _ _) _⟩
    · obtain rfl : s = 2 := by omega
      have hp := hdle.2 rfl
      subst hp
      by_cases hc39 : c < 2 ^ 39
      · have hf := hnear hc39 rfl
        have hf2 : 2 ≤ (far : Int) := by omega
        clear h0 h1 hnear hdle hs0 hs1 hc39 hf
        go_enter Tryd.func11, Tryd.ntmps11
        go_wp2_with fail
        refine (HP.out).mono ?_
        rintro r w1 ⟨rfl, rfl⟩
        go_wp2_with fail
        refine (HP2.out).mono ?_
        rintro r w1 ⟨rfl, n, rfl⟩
        go_wp2_with fail
        refine (HD2.out _).mono ?_
        rintro r w1 ⟨rfl, rfl⟩
        go_wp2_with fail
        refine (HV.out n).mono ?_
        rintro r w1 ⟨rfl, m, rfl⟩
        go_wp2_with fail
        refine (HFD.out _).mono ?_
        rintro r w1 ⟨rfl, rfl⟩
        go_wp2_with fail
        refine (HL.out _).mono ?_
        rintro r w1 ⟨rfl, k, rfl⟩
        go_wp2_with fail
        go_ret
        exact ⟨rfl, below_drewN (Below.refl _ _) _⟩
      · have hcb : 549755813888 ≤ (c : Int) := by omega
        by_cases hf : 2 ≤ far
        · have hf2 : 2 ≤ (far : Int) := by omega
          clear h0 h1 hnear hdle hs0 hs1 hc39 hcb hf
          go_enter Tryd.func11, Tryd.ntmps11
          go_wp2_with fail
          refine (HP.out).mono ?_
          rintro r w1 ⟨rfl, rfl⟩
          go_wp2_with fail
          refine (HP2.out).mono ?_
          rintro r w1 ⟨rfl, n, rfl⟩
          go_wp2_with fail
          refine (HD2.out _).mono ?_
          rintro r w1 ⟨rfl, rfl⟩
          go_wp2_with fail
          refine (HV.out n).mono ?_
          rintro r w1 ⟨rfl, m, rfl⟩
          go_wp2_with fail
          refine (HFD.out _).mono ?_
          rintro r w1 ⟨rfl, rfl⟩
          go_wp2_with fail
          refine (HL.out _).mono ?_
          rintro r w1 ⟨rfl, k, rfl⟩
          go_wp2_with fail
          go_ret
          exact ⟨rfl, below_drewN (Below.refl _ _) _⟩
        · have hf2 : ¬ 2 ≤ (far : Int) := by omega
          clear h0 h1 hnear hdle hs0 hs1 hc39 hf
          go_enter Tryd.func11, Tryd.ntmps11
          go_wp2_with fail
          refine (HP.out).mono ?_
          rintro r w1 ⟨rfl, rfl⟩
          go_wp2_with fail
          refine (HP2.out).mono ?_
          rintro r w1 ⟨rfl, n, rfl⟩
          go_wp2_with fail
          refine (HD2.out _).mono ?_
          rintro r w1 ⟨rfl, rfl⟩
          go_wp2_with fail
          refine (HV.out n).mono ?_
          rintro r w1 ⟨rfl, m, rfl⟩
          go_wp2_with fail
          refine (HFD.out _).mono ?_
          rintro r w1 ⟨rfl, rfl⟩
          go_wp2_with fail
          refine (HL.out _).mono ?_
          rintro r w1 ⟨rfl, k, rfl⟩
          go_wp2_with fail
          go_ret
          exact ⟨rfl, below_drewN (Below.refl _ _) _⟩

theorem reads (os : Os) {H0 : Type} (enc : TypeId × Value → H0) : ∃ places, DataW.whole enc Tryd.prog ((Go.Proofs.YtbhefdincmfmjaaDoor.E.laidWorld os).forCall (fun _ _ => 0) ⟨#[], #[.int .u64 0, .int .u32 0], []⟩).memory Tryd.f11.params.toList Rows.eccNearestSpec.vars false (#[.int .u64 0, .int .u32 0] : Array Value).toList 8 = some ([.lit (.int .u64 0), .lit (.int .u32 0)], [], places) :=
  ⟨[], by kernel_rfl⟩
set_option maxRecDepth 100000 in
theorem lifted (os : Os) (started : os.Started) (H0 : Type) (enc : TypeId × Value → H0) (F0 : Stop.Interp) :
    ReturnsInHanded {} Tryd.checked os 11 .any ((OpenSpec.ofChange Rows.eccNearestSpec).preRow enc Tryd.prog Tryd.f11 Rows.eccNearestRow.domain false Rows.eccNearestRow.laid) (((OpenSpec.ofChange Rows.eccNearestSpec).at F0).post enc Tryd.prog Tryd.f11 false true false false) := by
  obtain ⟨places, hx⟩ := reads os enc
  refine returnsInHanded_of_row (C := Tryd.checked) (s := (OpenSpec.ofChange Rows.eccNearestSpec)) Go.Proofs.YtbhefdincmfmjaaDoor.O.own started (by kernel_rfl) Tryd.func11
    (witness_row_at (enc := enc) (C := Tryd.checked) false (Go.Proofs.YtbhefdincmfmjaaDoor.E.laidWorld os) #[.int .u64 0, .int .u32 0] rfl (by kernel_rfl) (by kernel_rfl) (by kernel_rfl)
      (OpenSpec.preRow_of_cond 8 hx (by kernel_rfl) (fun k hk => by cases hk) (by kernel_rfl) (Go.Proofs.YtbhefdincmfmjaaDoor.E.laid_met os _))) ?_
  intro W base args ds gs before hval0 hW _ hk0 hsz0 hL _ _
  have hsz : (DataW.weightsEach Tryd.prog (Tryd.f11.params.toList ++ (OpenSpec.ofChange Rows.eccNearestSpec).bare.plain.varTypes Tryd.prog) (ds ++ gs)).all (· ≤ reachBytes) = true := hsz0
  clear hsz0
  have hval : ∀ (j : Nat) t v, Tryd.f11.params[j]? = some t → args[j]? = some v → Value.okWide Tryd.prog W .any base t v := hval0
  have hW' := hW
  obtain ⟨p, q, hA0, hV, rfl, hfz, hnd⟩ := hW
  have hA : DataW.TrodAll enc Tryd.prog W 0 (fun _ => true) true Tryd.f11.params.toList args.toList ds p := hA0
  rw [Tryd.params11] at hA hval hsz
  obtain ⟨v0, vs0, d0, ds0, p0, q0, hargs, rfl, rfl, h0, r0⟩ := trodAll_cons hA
  obtain ⟨v1, vs1, d1, ds1, p1, q1, rfl, rfl, rfl, h1, r1⟩ := trodAll_cons r0
  obtain ⟨rfl, rfl, rfl⟩ := trodAll_nil r1
  obtain rfl : args = #[v0, v1] := by cases args; simp_all
  obtain ⟨rfl, rfl⟩ := trodVars_none hV
  obtain ⟨a0, rfl, rfl, rfl, w0⟩ := open_int Tryd.underlying23 (hval 0 23 v0 rfl rfl) h0
  obtain ⟨a1, rfl, rfl, rfl, w1⟩ := open_int Tryd.underlying22 (hval 1 22 v1 rfl rfl) h1
  clear hA0 hval0
  have tb := Go.Proofs.YtbhefdincmfmjaaDoor.E.tab_of_laid hL
  refine (walk a0 a1 W tb w0 w1).mono fun e W' ⟨he, bel⟩ => ?_
  subst he
  exact ⟨_, rfl, _, _, _, [], _, [], hW', trodAll_mk1 (shut_bool Tryd.underlying4 _), (trodAll_cons_mk (shut_int Tryd.underlying23 w0) (trodAll_cons_mk (shut_int Tryd.underlying22 w1) trodAll_mk0)), rfl, bel.frame _, fun h => by cases h⟩

theorem said : Rows.EccNearestSaid :=
  OpenClaim.holds_of_cond 11 Tryd.f11 rfl rfl rfl rfl rfl rfl rfl ⟨rfl, rfl, rfl, rfl, rfl⟩ rfl rfl rfl rfl rfl (by kernel_rfl) Tryd.func11 (by kernel_rfl)
    (of_decide_eq_true (by kernel_rfl)) (by unfold Func.isWrapper; first | (rw [if_pos (by decide +kernel)]; kernel_rfl) | (rw [if_neg (by decide +kernel)]; exact ⟨rfl, rfl⟩))
    (fun os started H0 enc _ F0 => by rw [OpenClaim.pre_eq_preRow]; exact lifted os started H0 enc F0)
theorem plain (f : FuncId) (fn : Func) (hf : Tryd.pinned.checked.prog.funcNamed "perigee/perigeelaw05.EccNearest" = some f) (hfn : Tryd.pinned.checked.prog.funcs[f]? = some fn) :
    false = Tryd.pinned.checked.prog.looks [] ∧ ∀ (j : Nat) t, fn.params[j]? = some t → Tryd.pinned.checked.prog.wantsStandIn t = false := by
  obtain rfl : f = 11 := Option.some.inj ((show Tryd.prog.funcNamed "perigee/perigeelaw05.EccNearest" = some 11 by kernel_rfl).symm.trans hf) |>.symm
  obtain rfl : fn = Tryd.f11 := (Option.some.inj (Tryd.func11.symm.trans hfn)).symm
  refine ⟨by kernel_rfl, fun j t ht => ?_⟩
  rw [Tryd.params11] at ht
  have hm : t ∈ [23, 22] := by simpa using Array.mem_of_getElem? ht
  have hall : ([23, 22].all fun u => !Tryd.prog.wantsStandIn u) = true := by kernel_rfl
  exact (show Tryd.prog.wantsStandIn t = false by simpa using List.all_eq_true.1 hall t hm)
/-- ████ THE CARD ████ -/
theorem proved : Rows.EccNearestCardSaid :=
  Claim7.holds_tied_plain_at .later [] _ _ _ _ said (fun _ h => by cases h) (by kernel_rfl) (fun _ h => by cases h) eccNearest_row_tie rfl ⟨rfl, rfl⟩ (by kernel_rfl) rfl plain (by kernel_rfl)
end Go.Proofs.YtbhefdincmfmjaaDoor.eccNearest
