/-
  For every number of words, JournalForm returns true: Format and Open of a memory that was just made answer as specified, without power and with it, and a journal that is formatted anew is empty; and the chapter's examples hold.
-/
import Derived.Test.YtnoohhpajoaaoaaDoorJLives
import Derived.Deep.DeepCutAuto
import Derived.Deep.RegionHeld3
import Derived.Deep.LoopGhost
import Derived.Deep.QuietTactic
namespace Go.Proofs.YtnoohhpajoaaoaaDoor.journalForm
open Go.ChangeShapes Go.WideShapes Go.ChangeAt Go.RowKit
open Go.ChangeMaps (open_string shut_string)
set_option linter.unusedVariables false

set_option maxRecDepth 100000 in
set_option maxHeartbeats 1000000 in
theorem walk (a0 : Int) (w : World) (tb : E.Tab w) (w0 : (Lit.int .i64 a0).wf = true) :
    Calls Tryd.prog 8 #[.int .i64 a0] w fun e w' => e = .returned (.bool true) ∧ Below w.heap.size w w' := by
  have hq0 := H.i64_range w0
  obtain ⟨l, hl, hl60⟩ := H.around_nat a0 (m := 60) (by decide)
  have hl' : H.around a0 60 = (l : Int) := hl
  have HA := Lib.hid (H.around_any a0 60 hq0.1 hq0.2 (by decide) (by decide) w)
  rw [hl'] at HA
  obtain ⟨n, hn⟩ : ∃ n : Nat, n = l + 1 := ⟨_, rfl⟩
  have hni : (1 : Int) + (l : Int) = (n : Int) := by omega
  have hnb : 1 ≤ n ∧ n ≤ 60 := by omega
  have HNB := Lib.hid hnb
  have HTB := Lib.hid tb
  have HNW := Lib.hid (M.pnew_any (n : Nat) w tb)
  have HNI := Lib.hid hni
  have hlb : (l : Int) < 60 := by omega
  clear hl hl' hq0 w0 tb hn hnb hl60
  go_enter Tryd.func8, Tryd.ntmps8
  go_wp2_with fail
  refine HA.out.mono ?_
  rintro r wa ⟨rfl, rfl⟩
  go_wp2_with fail
  refine HNW.out.mono ?_
  intro r w1 hp
  obtain ⟨bm, vm, rfl, hm1⟩ := J.newPost_get HNB.out.1 (by have := HNB.out.2; omega) hp
  have HM1 := Lib.hid hm1
  clear hp hm1
  go_wp2_with fail
  refine (J.popen_none HM1.out.1 HNB.out.1 (by have := HNB.out.2; omega) (HTB.out.below HTB.out.pos HM1.out.2.2)).mono ?_
  rintro r w2 ⟨p2, rfl, hb2⟩
  have HM2 := Lib.hid (J.made_keep HM1.out hb2)
  clear hb2
  obtain ⟨f, hf⟩ : ∃ f : Int, (if n < 16 then 2 else 7) = f := ⟨_, rfl⟩
  have HF := Lib.hid hf
  rw [hf]
  clear hf
  go_wp2_with fail
  refine (M.pfuse_any HM2.out.1 0).mono ?_
  rintro r w3 ⟨rfl, hp3, hs3⟩
  have HM3 := Lib.hid (J.made_step HM2.out hp3 hs3)
  clear hp3 hs3
  go_wp2_with fail
  refine (J.pformat_any HM3.out.1 (M.fuse_ok (M.new_ok HNB.out.1 (by have := HNB.out.2; omega)) (by decide)) (HTB.out.below HTB.out.pos HM3.out.2.2) (by show (0 : Nat) ≤ _; omega) (fun _ => 0)).mono ?_
  rintro r w4 ⟨p4, g, m4, rfl, hp4, _, hs4, _, _, hA4, hB4, _⟩
  have hlen : ((M.Mem.new n).fuse 0).code.length = n := List.length_replicate
  rw [hlen] at hA4 hB4
  have hm4 : m4 = (M.Mem.new n).fuse 0 ∧ g = (if n < 16 then 2 else 21) := by
    by_cases h : n < 16
    · obtain ⟨h1, h2⟩ := hA4 h
      exact ⟨h2, by rw [if_pos h]; exact h1⟩
    · obtain ⟨h1, h2⟩ := hB4 (by omega) rfl
      exact ⟨h2, by rw [if_neg h]; exact h1⟩
  obtain ⟨rfl, hg⟩ := hm4
  have HGG := Lib.hid hg
  have HM4 := Lib.hid (J.made_step HM3.out hp4 hs4)
  clear hp4 hs4 hA4 hB4 hlen hg
  go_wp2_with fail
  refine (M.preset_any HM4.out.1).mono ?_
  rintro r w5 ⟨rfl, hp5, hs5⟩
  rw [J.new_fuse_reset] at hp5
  have HM5 := Lib.hid (J.made_step HM4.out hp5 hs5)
  clear hp5 hs5
  go_wp2_with fail
  refine (J.pformat_any HM5.out.1 (M.new_ok HNB.out.1 (by have := HNB.out.2; omega)) (HTB.out.below HTB.out.pos HM5.out.2.2) (by show (0 : Nat) ≤ _; omega) (fun _ => 0)).mono ?_
  intro r w6 hp6
  by_cases h16 : n < 16
  · have h16i : (n : Int) < 16 := by omega
    obtain ⟨p6, h, m6, rfl, hp6', _, hs6, _, _, hA6, _, _⟩ := hp6
    have hlen : (M.Mem.new n).code.length = n := List.length_replicate
    rw [hlen] at hA6
    obtain ⟨rfl, rfl⟩ := hA6 h16
    have HM6 := Lib.hid (J.made_step HM5.out hp6' hs6)
    have hg2 : g = 2 := by rw [HGG.out, if_pos h16]
    have hf2 : f = 2 := by rw [← HF.out, if_pos h16]
    subst hg2 hf2
    clear hp6' hs6 hA6 hlen h16
    go_wp2_with fail
    refine (J.glives HM6.out.2.2 HTB.out).mono ?_
    rintro r w7 ⟨rfl, hb⟩
    have HBE := Lib.hid hb
    clear hb
    go_wp2_with fail
    go_ret
    exact ⟨rfl, HBE.out⟩
  · have h16i : ¬ (n : Int) < 16 := by omega
    have HN16 : Hid (16 ≤ n) := Lib.hid (by omega)
    have hg2 : g = 21 := by rw [HGG.out, if_neg h16]
    have hf2 : f = 7 := by rw [← HF.out, if_neg h16]
    subst hg2 hf2
    obtain ⟨bj, m6, s6, FR6, ws6, rfl, hg, hr, ho, hl, _⟩ := J.FormatPost.good HM5.out HN16.out hp6
    have H6 := Lib.hid (And.intro hg (And.intro hr (And.intro ho hl)))
    clear hp6 hg hr ho hl h16
    go_wp2_with fail
    refine (J.grecords H6.out.1 (by have := HNB.out.2; omega)).mono ?_
    rintro r w7 ⟨v7, rfl, hrr, hb7⟩
    obtain ⟨A7, c7, hv7⟩ := hrr.shape
    rw [H6.out.2.1] at hv7
    subst hv7
    have HG7 := Lib.hid (H6.out.1.keep hb7)
    clear hrr hb7
    go_wp2_with fail
    refine (J.gopens HG7.out HTB.out HN16.out (by have := HNB.out.2; omega) (G := fun _ => True) R.RR.nil).mono ?_
    rintro r w8 ⟨rfl, hb8⟩
    rw [H6.out.2.1, decide_eq_true rfl]
    have HG8 := Lib.hid (HG7.out.keep hb8)
    clear hb8
    go_wp2_with fail
    refine (J.gappend1 HG8.out HTB.out HN16.out (by decide) H6.out.2.2.1 H6.out.2.2.2 1 (by decide)).mono ?_
    rintro r w9 ⟨m9, s9, FR9, ws9, rfl, hg, hr, ho, hl, _⟩
    rw [show J.errL n (s6.rows ++ [[1]]) = 0 by rw [H6.out.2.1]; exact J.errL_intro (fun r hr => by rw [List.mem_singleton.1 hr]; decide) (by show ((2 : Nat) : Int) ≤ _; have := HN16.out; omega)]
    have H9 := Lib.hid (And.intro hg (And.intro ho hl))
    clear hg hr ho hl
    go_wp2_with fail
    refine (J.pformat_any H9.out.1.jj.pj.pm H9.out.1.jj.ok (H9.out.1.tab HTB.out) (by have := H9.out.1.cnt; omega) ws9).mono ?_
    intro r w10 hp10
    obtain ⟨bj2, m10, s10, FR10, ws10, rfl, hg, hr, ho, hl⟩ := J.FormatPost.again H9.out.1 HN16.out H9.out.2.1 H9.out.2.2 hp10
    have H10 := Lib.hid (And.intro hg hr)
    clear hp10 hg hr ho hl
    go_wp2_with fail
    refine (J.grecords H10.out.1 (by have := HNB.out.2; omega)).mono ?_
    rintro r w11 ⟨v11, rfl, hrr, hb11⟩
    obtain ⟨A11, c11, hv11⟩ := hrr.shape
    rw [H10.out.2] at hv11
    subst hv11
    have HG11 := Lib.hid (H10.out.1.keep hb11)
    clear hrr hb11
    go_wp2_with fail
    refine (J.gopens HG11.out HTB.out HN16.out (by have := HNB.out.2; omega) (G := fun _ => True) R.RR.nil).mono ?_
    rintro r w12 ⟨rfl, hb12⟩
    rw [H10.out.2, decide_eq_true rfl]
    have HG12 := Lib.hid (HG11.out.keep hb12)
    clear hb12
    go_wp2_with fail
    refine (J.glives HG12.out.below HTB.out).mono ?_
    rintro r w13 ⟨rfl, hb⟩
    have HBE := Lib.hid hb
    clear hb
    go_wp2_with fail
    go_ret
    exact ⟨rfl, HBE.out⟩

theorem reads (os : Os) {H0 : Type} (enc : TypeId × Value → H0) : ∃ places, DataW.whole enc Tryd.prog ((Go.Proofs.YtnoohhpajoaaoaaDoor.E.laidWorld os).forCall (fun _ _ => 0) ⟨#[], #[.int .i64 0], []⟩).memory Tryd.f8.params.toList Rows.journalFormSpec.vars false (#[.int .i64 0] : Array Value).toList 8 = some ([.lit (.int .i64 0)], [], places) :=
  ⟨[], by kernel_rfl⟩
set_option maxRecDepth 100000 in
theorem lifted (os : Os) (started : os.Started) (H0 : Type) (enc : TypeId × Value → H0) (F0 : Stop.Interp) :
    ReturnsInHanded {} Tryd.checked os 8 .any ((OpenSpec.ofChange Rows.journalFormSpec).preRow enc Tryd.prog Tryd.f8 Rows.journalFormRow.domain false Rows.journalFormRow.laid) (((OpenSpec.ofChange Rows.journalFormSpec).at F0).post enc Tryd.prog Tryd.f8 false true false false) := by
  obtain ⟨places, hx⟩ := reads os enc
  refine returnsInHanded_of_row (C := Tryd.checked) (s := (OpenSpec.ofChange Rows.journalFormSpec)) Go.Proofs.YtnoohhpajoaaoaaDoor.O.own started (by kernel_rfl) Tryd.func8
    (witness_row_at (enc := enc) (C := Tryd.checked) false (Go.Proofs.YtnoohhpajoaaoaaDoor.E.laidWorld os) #[.int .i64 0] rfl (by kernel_rfl) (by kernel_rfl) (by kernel_rfl)
      (OpenSpec.preRow_of_cond 8 hx (by kernel_rfl) (fun k hk => by cases hk) (by kernel_rfl) (Go.Proofs.YtnoohhpajoaaoaaDoor.E.laid_met os _))) ?_
  intro W base args ds gs before hval0 hW _ hk0 hsz0 hL _ _
  have hsz : (DataW.weightsEach Tryd.prog (Tryd.f8.params.toList ++ (OpenSpec.ofChange Rows.journalFormSpec).bare.plain.varTypes Tryd.prog) (ds ++ gs)).all (· ≤ reachBytes) = true := hsz0
  clear hsz0
  have hval : ∀ (j : Nat) t v, Tryd.f8.params[j]? = some t → args[j]? = some v → Value.okWide Tryd.prog W .any base t v := hval0
  have hW' := hW
  obtain ⟨p, q, hA0, hV, rfl, hfz, hnd⟩ := hW
  have hA : DataW.TrodAll enc Tryd.prog W 0 (fun _ => true) true Tryd.f8.params.toList args.toList ds p := hA0
  rw [Tryd.params8] at hA hval hsz
  obtain ⟨v0, vs0, d0, ds0, p0, q0, hargs, rfl, rfl, h0, r0⟩ := trodAll_cons hA
  obtain ⟨rfl, rfl, rfl⟩ := trodAll_nil r0
  obtain rfl : args = #[v0] := by cases args; simp_all
  obtain ⟨rfl, rfl⟩ := trodVars_none hV
  obtain ⟨a0, rfl, rfl, rfl, w0⟩ := open_int Tryd.underlying3 (hval 0 3 v0 rfl rfl) h0
  clear hA0 hval0
  have tb := Go.Proofs.YtnoohhpajoaaoaaDoor.E.tab_of_laid hL
  refine (walk a0 W tb w0).mono fun e W' ⟨he, bel⟩ => ?_
  subst he
  exact ⟨_, rfl, _, _, _, [], _, [], hW', trodAll_mk1 (shut_bool Tryd.underlying4 _), (trodAll_cons_mk (shut_int Tryd.underlying3 w0) trodAll_mk0), rfl, bel.frame _, fun h => by cases h⟩

theorem said : Rows.JournalFormSaid :=
  OpenClaim.holds_of_cond 8 Tryd.f8 rfl rfl rfl rfl rfl rfl rfl ⟨rfl, rfl, rfl, rfl, rfl⟩ rfl rfl rfl rfl rfl (by kernel_rfl) Tryd.func8 (by kernel_rfl)
    (of_decide_eq_true (by kernel_rfl)) (by unfold Func.isWrapper; first | (rw [if_pos (by decide +kernel)]; kernel_rfl) | (rw [if_neg (by decide +kernel)]; exact ⟨rfl, rfl⟩))
    (fun os started H0 enc _ F0 => by rw [OpenClaim.pre_eq_preRow]; exact lifted os started H0 enc F0)
theorem plain (f : FuncId) (fn : Func) (hf : Tryd.pinned.checked.prog.funcNamed "perigee/perigeelaw07.JournalForm" = some f) (hfn : Tryd.pinned.checked.prog.funcs[f]? = some fn) :
    false = Tryd.pinned.checked.prog.looks [] ∧ ∀ (j : Nat) t, fn.params[j]? = some t → Tryd.pinned.checked.prog.wantsStandIn t = false := by
  obtain rfl : f = 8 := Option.some.inj ((show Tryd.prog.funcNamed "perigee/perigeelaw07.JournalForm" = some 8 by kernel_rfl).symm.trans hf) |>.symm
  obtain rfl : fn = Tryd.f8 := (Option.some.inj (Tryd.func8.symm.trans hfn)).symm
  refine ⟨by kernel_rfl, fun j t ht => ?_⟩
  rw [Tryd.params8] at ht
  have hm : t ∈ [3] := by simpa using Array.mem_of_getElem? ht
  have hall : ([3].all fun u => !Tryd.prog.wantsStandIn u) = true := by kernel_rfl
  exact (show Tryd.prog.wantsStandIn t = false by simpa using List.all_eq_true.1 hall t hm)
/-- ████ THE CARD ████ -/
theorem proved : Rows.JournalFormCardSaid :=
  Claim7.holds_tied_plain_at .later [] _ _ _ _ said (fun _ h => by cases h) (by kernel_rfl) (fun _ h => by cases h) journalForm_row_tie rfl ⟨rfl, rfl⟩ (by kernel_rfl) rfl plain (by kernel_rfl)
end Go.Proofs.YtnoohhpajoaaoaaDoor.journalForm
