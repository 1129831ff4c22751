/-
  For all three code words, EccMetric returns true: Distance is 0 exactly for equal arguments, symmetric, and satisfies the triangle inequality; a bit that is inverted changes it by 1, and inverted again restores the code word; and the chapter's examples hold.
-/
import Derived.Test.YtbhefdincmfmjaaDoorELaw
import Derived.Test.YtbhefdincmfmjaaDoorAround
import Derived.Deep.DeepCutAuto
import Derived.Deep.RegionHeld3
import Derived.Deep.LoopGhost
import Derived.Deep.QuietTactic
namespace Go.Proofs.YtbhefdincmfmjaaDoor.eccMetric
open Go.ChangeShapes Go.WideShapes Go.ChangeAt Go.RowKit
open Go.ChangeMaps (open_string shut_string)
set_option linter.unusedVariables false

set_option maxRecDepth 100000 in
set_option maxHeartbeats 1000000 in
theorem walk (a0 : Int) (a1 : Int) (a2 : Int) (w : World) (tb : E.Tab w) (w0 : (Lit.int .u64 a0).wf = true) (w1 : (Lit.int .u64 a1).wf = true) (w2 : (Lit.int .u64 a2).wf = true) :
    Calls Tryd.prog 12 #[.int .u64 a0, .int .u64 a1, .int .u64 a2] w fun e w' => e = .returned (.bool true) ∧ Below w.heap.size w w' := by
  obtain ⟨a, rfl, ha⟩ := E.u64_nat_of w0
  obtain ⟨b, rfl, hb⟩ := E.u64_nat_of w1
  obtain ⟨c, rfl, hc⟩ := E.u64_nat_of w2
  have heq := E.dist_eq (a := a) (b := b) ha hb
  have htri := E.dist_tri a b c
  have l1 := E.cnt_le (a ^^^ b) 64
  have l2 := E.cnt_le (b ^^^ c) 64
  have l1 : E.dist a b ≤ 64 := l1
  have l2 : E.dist b c ≤ 64 := l2
  have hq : (((E.dist a b : Nat) : Int) == 0) = ((a : Int) == (b : Int)) := by
    rw [Bool.eq_iff_iff]; simp; omega
  have HAB := Lib.hid (E.pdist_any a b ha hb w)
  have HBA := Lib.hid (E.pdist_any b a hb ha w)
  rw [E.dist_comm b a] at HBA
  have HAC := Lib.hid (E.pdist_any a c ha hc w)
  have HBC := Lib.hid (E.pdist_any b c hb hc w)
  have HF := Lib.hid (fun (i : Int) W => E.pflip_any a i ha W)
  have HFF := Lib.hid (fun (i : Int) W => E.pflip_any (E.flip a i) i (E.flip_lt ha i) W)
  have HD := Lib.hid (fun (i : Int) W => E.pdist_any a (E.flip a i) ha (E.flip_lt ha i) W)
  have HB := Lib.hid (E.flip_flip a)
  have HO := Lib.hid (fun (i : Nat) (h : i < 64) => E.flip_in a h)
  have HDF := Lib.hid (fun (i : Nat) (h : i < 64) => E.dist_flip a h)
  have HDS := Lib.hid (E.dist_self a)
  have HT := Lib.hid (E.plives_any w tb)
  have hac : ¬ ((E.dist a b : Nat) : Int) + ((E.dist b c : Nat) : Int) < ((E.dist a c : Nat) : Int) := by omega
  clear w0 w1 w2 tb ha hb hc htri heq
  generalize E.dist a b = ab at *
  generalize E.dist a c = ac at *
  generalize E.dist b c = bc at *
  generalize hqe : (((a : Int) == (b : Int))) = q at *
  cases q
  · go_enter Tryd.func12, Tryd.ntmps12
    go_wp2_with fail
    refine (HAB.out).mono ?_
    rintro r w1 ⟨rfl, rfl⟩
    go_wp2_with fail
    refine (HBA.out).mono ?_
    rintro r w1 ⟨rfl, rfl⟩
    go_wp2_with fail
    refine (HAC.out).mono ?_
    rintro r w1 ⟨rfl, rfl⟩
    go_wp2_with fail
    refine (HBC.out).mono ?_
    rintro r w1 ⟨rfl, rfl⟩
    go_wp2_with fail
    go_loopg [8, 9, 10] 66 (fun g i x d wr => ∃ k : Nat, k + g = 66 ∧ i = .int .i64 ((k : Int) - 1) ∧ wr = w1)
    case atStart => exact ⟨0, by omega, rfl, rfl⟩
    case round =>
      obtain ⟨k, hg, rfl, rfl⟩ := hrel
      have HG := Lib.hid hg
      have hk : k ≤ 66 := by omega
      clear hg
      by_cases hlt : k < 66
      · have hi : ¬ 64 < (k : Int) - 1 := by omega
        have hi2 : (k : Int) - 1 ≤ 64 := by omega
        have hf := HF.out ((k : Int) - 1) wr
        have hff := HFF.out ((k : Int) - 1) wr
        have hd := HD.out ((k : Int) - 1) wr
        rw [HB.out] at hff
        by_cases hin : 1 ≤ k ∧ k ≤ 64
        · obtain ⟨j, rfl⟩ : ∃ j, k = j + 1 := ⟨k - 1, by omega⟩
          have e : ((j + 1 : Nat) : Int) - 1 = (j : Int) := by omega
          have h63 : ¬ 63 < (j : Int) := by omega
          rw [e] at hf hff hd ⊢
          rw [HO.out j (by omega)] at hf hff hd
          rw [HDF.out j (by omega)] at hd
          have HHF := Lib.hid hf
          have HHFF := Lib.hid hff
          have HHD := Lib.hid hd
          have hj64 : (j : Int) ≤ 64 := by omega
          generalize a ^^^ 2 ^ j = y at *
          have HK := Lib.hid hin
          clear hf hff hd e hin hlt hk hi hi2
          go_wp2_with fail
          refine (HHF.out).mono ?_
          rintro r w1 ⟨rfl, rfl⟩
          go_wp2_with fail
          refine (HHD.out).mono ?_
          rintro r w1 ⟨rfl, rfl⟩
          go_wp2_with fail
          refine (HHFF.out).mono ?_
          rintro r w1 ⟨rfl, rfl⟩
          go_wp2_with fail
          go_roundg (gk - 1)
          case measure => have := HG.out; omega
          case rel => exact ⟨j + 1 + 1, by have := HG.out; have := HK.out; omega, by go_num, rfl⟩
        · have hno : E.flip a ((k : Int) - 1) = a := by unfold E.flip; rw [if_pos (by omega)]
          rw [hno] at hf hff hd
          rw [HDS.out] at hd
          have HHF := Lib.hid hf
          have HHFF := Lib.hid hff
          have HHD := Lib.hid hd
          have HLT := Lib.hid hlt
          clear hf hff hd hno hlt
          by_cases hk0 : k < 1
          · obtain rfl : k = 0 := by omega
            rw [show ((0 : Nat) : Int) - 1 = -1 from rfl] at *
            clear hin hk hi hi2 hk0
            go_wp2_with fail
            refine (HHF.out).mono ?_
            rintro r w1 ⟨rfl, rfl⟩
            go_wp2_with fail
            refine (HHD.out).mono ?_
            rintro r w1 ⟨rfl, rfl⟩
            go_wp2_with fail
            refine (HHFF.out).mono ?_
            rintro r w1 ⟨rfl, rfl⟩
            go_wp2_with fail
            go_roundg (gk - 1)
            case measure => have := HG.out; omega
            case rel => exact ⟨1, by have := HG.out; omega, rfl, rfl⟩
          · obtain rfl : k = 65 := by omega
            rw [show ((65 : Nat) : Int) - 1 = 64 from rfl] at *
            clear hin hk hi hi2 hk0
            go_wp2_with fail
            refine (HHF.out).mono ?_
            rintro r w1 ⟨rfl, rfl⟩
            go_wp2_with fail
            refine (HHD.out).mono ?_
            rintro r w1 ⟨rfl, rfl⟩
            go_wp2_with fail
            refine (HHFF.out).mono ?_
            rintro r w1 ⟨rfl, rfl⟩
            go_wp2_with fail
            go_roundg (gk - 1)
            case measure => have := HG.out; omega
            case rel => exact ⟨66, by have := HG.out; omega, rfl, rfl⟩
      · obtain rfl : k = 66 := by omega
        clear hlt hk
        go_wp2_with fail
        refine (HT.out).mono ?_
        rintro r w1 ⟨rfl, m, rfl⟩
        go_wp2_with fail
        go_ret
        exact ⟨rfl, below_drewN (Below.refl _ _) _⟩
  · go_enter Tryd.func12, Tryd.ntmps12
    go_wp2_with fail
    refine (HAB.out).mono ?_
    rintro r w1 ⟨rfl, rfl⟩
    go_wp2_with fail
    refine (HBA.out).mono ?_
    rintro r w1 ⟨rfl, rfl⟩
    go_wp2_with fail
    refine (HAC.out).mono ?_
    rintro r w1 ⟨rfl, rfl⟩
    go_wp2_with fail
    refine (HBC.out).mono ?_
    rintro r w1 ⟨rfl, rfl⟩
    go_wp2_with fail
    go_loopg [8, 9, 10] 66 (fun g i x d wr => ∃ k : Nat, k + g = 66 ∧ i = .int .i64 ((k : Int) - 1) ∧ wr = w1)
    case atStart => exact ⟨0, by omega, rfl, rfl⟩
    case round =>
      obtain ⟨k, hg, rfl, rfl⟩ := hrel
      have HG := Lib.hid hg
      have hk : k ≤ 66 := by omega
      clear hg
      by_cases hlt : k < 66
      · have hi : ¬ 64 < (k : Int) - 1 := by omega
        have hi2 : (k : Int) - 1 ≤ 64 := by omega
        have hf := HF.out ((k : Int) - 1) wr
        have hff := HFF.out ((k : Int) - 1) wr
        have hd := HD.out ((k : Int) - 1) wr
        rw [HB.out] at hff
        by_cases hin : 1 ≤ k ∧ k ≤ 64
        · obtain ⟨j, rfl⟩ : ∃ j, k = j + 1 := ⟨k - 1, by omega⟩
          have e : ((j + 1 : Nat) : Int) - 1 = (j : Int) := by omega
          have h63 : ¬ 63 < (j : Int) := by omega
          rw [e] at hf hff hd ⊢
          rw [HO.out j (by omega)] at hf hff hd
          rw [HDF.out j (by omega)] at hd
          have HHF := Lib.hid hf
          have HHFF := Lib.hid hff
          have HHD := Lib.hid hd
          have hj64 : (j : Int) ≤ 64 := by omega
          generalize a ^^^ 2 ^ j = y at *
          have HK := Lib.hid hin
          clear hf hff hd e hin hlt hk hi hi2
          go_wp2_with fail
          refine (HHF.out).mono ?_
          rintro r w1 ⟨rfl, rfl⟩
          go_wp2_with fail
          refine (HHD.out).mono ?_
          rintro r w1 ⟨rfl, rfl⟩
          go_wp2_with fail
          refine (HHFF.out).mono ?_
          rintro r w1 ⟨rfl, rfl⟩
          go_wp2_with fail
          go_roundg (gk - 1)
          case measure => have := HG.out; omega
          case rel => exact ⟨j + 1 + 1, by have := HG.out; have := HK.out; omega, by go_num, rfl⟩
        · have hno : E.flip a ((k : Int) - 1) = a := by unfold E.flip; rw [if_pos (by omega)]
          rw [hno] at hf hff hd
          rw [HDS.out] at hd
          have HHF := Lib.hid hf
          have HHFF := Lib.hid hff
          have HHD := Lib.hid hd
          have HLT := Lib.hid hlt
          clear hf hff hd hno hlt
          by_cases hk0 : k < 1
          · obtain rfl : k = 0 := by omega
            rw [show ((0 : Nat) : Int) - 1 = -1 from rfl] at *
            clear hin hk hi hi2 hk0
            go_wp2_with fail
            refine (HHF.out).mono ?_
            rintro r w1 ⟨rfl, rfl⟩
            go_wp2_with fail
            refine (HHD.out).mono ?_
            rintro r w1 ⟨rfl, rfl⟩
            go_wp2_with fail
            refine (HHFF.out).mono ?_
            rintro r w1 ⟨rfl, rfl⟩
            go_wp2_with fail
            go_roundg (gk - 1)
            case measure => have := HG.out; omega
            case rel => exact ⟨1, by have := HG.out; omega, rfl, rfl⟩
          · obtain rfl : k = 65 := by omega
            rw [show ((65 : Nat) : Int) - 1 = 64 from rfl] at *
            clear hin hk hi hi2 hk0
            go_wp2_with fail
            refine (HHF.out).mono ?_
            rintro r w1 ⟨rfl, rfl⟩
            go_wp2_with fail
            refine (HHD.out).mono ?_
            rintro r w1 ⟨rfl, rfl⟩
            go_wp2_with fail
            refine (HHFF.out).mono ?_
            rintro r w1 ⟨rfl, rfl⟩
            go_wp2_with fail
            go_roundg (gk - 1)
            case measure => have := HG.out; omega
            case rel => exact ⟨66, by have := HG.out; omega, rfl, rfl⟩
      · obtain rfl : k = 66 := by omega
        clear hlt hk
        go_wp2_with fail
        refine (HT.out).mono ?_
        rintro r w1 ⟨rfl, m, rfl⟩
        go_wp2_with fail
        go_ret
        exact ⟨rfl, below_drewN (Below.refl _ _) _⟩

theorem reads (os : Os) {H0 : Type} (enc : TypeId × Value → H0) : ∃ places, DataW.whole enc Tryd.prog ((Go.Proofs.YtbhefdincmfmjaaDoor.E.laidWorld os).forCall (fun _ _ => 0) ⟨#[], #[.int .u64 0, .int .u64 0, .int .u64 0], []⟩).memory Tryd.f12.params.toList Rows.eccMetricSpec.vars false (#[.int .u64 0, .int .u64 0, .int .u64 0] : Array Value).toList 8 = some ([.lit (.int .u64 0), .lit (.int .u64 0), .lit (.int .u64 0)], [], places) :=
  ⟨[], by kernel_rfl⟩
set_option maxRecDepth 100000 in
theorem lifted (os : Os) (started : os.Started) (H0 : Type) (enc : TypeId × Value → H0) (F0 : Stop.Interp) :
    ReturnsInHanded {} Tryd.checked os 12 .any ((OpenSpec.ofChange Rows.eccMetricSpec).preRow enc Tryd.prog Tryd.f12 Rows.eccMetricRow.domain false Rows.eccMetricRow.laid) (((OpenSpec.ofChange Rows.eccMetricSpec).at F0).post enc Tryd.prog Tryd.f12 false true false false) := by
  obtain ⟨places, hx⟩ := reads os enc
  refine returnsInHanded_of_row (C := Tryd.checked) (s := (OpenSpec.ofChange Rows.eccMetricSpec)) Go.Proofs.YtbhefdincmfmjaaDoor.O.own started (by kernel_rfl) Tryd.func12
    (witness_row_at (enc := enc) (C := Tryd.checked) false (Go.Proofs.YtbhefdincmfmjaaDoor.E.laidWorld os) #[.int .u64 0, .int .u64 0, .int .u64 0] rfl (by kernel_rfl) (by kernel_rfl) (by kernel_rfl)
      (OpenSpec.preRow_of_cond 8 hx (by kernel_rfl) (fun k hk => by cases hk) (by kernel_rfl) (Go.Proofs.YtbhefdincmfmjaaDoor.E.laid_met os _))) ?_
  intro W base args ds gs before hval0 hW _ hk0 hsz0 hL _ _
  have hsz : (DataW.weightsEach Tryd.prog (Tryd.f12.params.toList ++ (OpenSpec.ofChange Rows.eccMetricSpec).bare.plain.varTypes Tryd.prog) (ds ++ gs)).all (· ≤ reachBytes) = true := hsz0
  clear hsz0
  have hval : ∀ (j : Nat) t v, Tryd.f12.params[j]? = some t → args[j]? = some v → Value.okWide Tryd.prog W .any base t v := hval0
  have hW' := hW
  obtain ⟨p, q, hA0, hV, rfl, hfz, hnd⟩ := hW
  have hA : DataW.TrodAll enc Tryd.prog W 0 (fun _ => true) true Tryd.f12.params.toList args.toList ds p := hA0
  rw [Tryd.params12] at hA hval hsz
  obtain ⟨v0, vs0, d0, ds0, p0, q0, hargs, rfl, rfl, h0, r0⟩ := trodAll_cons hA
  obtain ⟨v1, vs1, d1, ds1, p1, q1, rfl, rfl, rfl, h1, r1⟩ := trodAll_cons r0
  obtain ⟨v2, vs2, d2, ds2, p2, q2, rfl, rfl, rfl, h2, r2⟩ := trodAll_cons r1
  obtain ⟨rfl, rfl, rfl⟩ := trodAll_nil r2
  obtain rfl : args = #[v0, v1, v2] := by cases args; simp_all
  obtain ⟨rfl, rfl⟩ := trodVars_none hV
  obtain ⟨a0, rfl, rfl, rfl, w0⟩ := open_int Tryd.underlying23 (hval 0 23 v0 rfl rfl) h0
  obtain ⟨a1, rfl, rfl, rfl, w1⟩ := open_int Tryd.underlying23 (hval 1 23 v1 rfl rfl) h1
  obtain ⟨a2, rfl, rfl, rfl, w2⟩ := open_int Tryd.underlying23 (hval 2 23 v2 rfl rfl) h2
  clear hA0 hval0
  have tb := Go.Proofs.YtbhefdincmfmjaaDoor.E.tab_of_laid hL
  refine (walk a0 a1 a2 W tb w0 w1 w2).mono fun e W' ⟨he, bel⟩ => ?_
  subst he
  exact ⟨_, rfl, _, _, _, [], _, [], hW', trodAll_mk1 (shut_bool Tryd.underlying4 _), (trodAll_cons_mk (shut_int Tryd.underlying23 w0) (trodAll_cons_mk (shut_int Tryd.underlying23 w1) (trodAll_cons_mk (shut_int Tryd.underlying23 w2) trodAll_mk0))), rfl, bel.frame _, fun h => by cases h⟩

theorem said : Rows.EccMetricSaid :=
  OpenClaim.holds_of_cond 12 Tryd.f12 rfl rfl rfl rfl rfl rfl rfl ⟨rfl, rfl, rfl, rfl, rfl⟩ rfl rfl rfl rfl rfl (by kernel_rfl) Tryd.func12 (by kernel_rfl)
    (of_decide_eq_true (by kernel_rfl)) (by unfold Func.isWrapper; first | (rw [if_pos (by decide +kernel)]; kernel_rfl) | (rw [if_neg (by decide +kernel)]; exact ⟨rfl, rfl⟩))
    (fun os started H0 enc _ F0 => by rw [OpenClaim.pre_eq_preRow]; exact lifted os started H0 enc F0)
theorem plain (f : FuncId) (fn : Func) (hf : Tryd.pinned.checked.prog.funcNamed "perigee/perigeelaw05.EccMetric" = some f) (hfn : Tryd.pinned.checked.prog.funcs[f]? = some fn) :
    false = Tryd.pinned.checked.prog.looks [] ∧ ∀ (j : Nat) t, fn.params[j]? = some t → Tryd.pinned.checked.prog.wantsStandIn t = false := by
  obtain rfl : f = 12 := Option.some.inj ((show Tryd.prog.funcNamed "perigee/perigeelaw05.EccMetric" = some 12 by kernel_rfl).symm.trans hf) |>.symm
  obtain rfl : fn = Tryd.f12 := (Option.some.inj (Tryd.func12.symm.trans hfn)).symm
  refine ⟨by kernel_rfl, fun j t ht => ?_⟩
  rw [Tryd.params12] at ht
  have hm : t ∈ [23, 23, 23] := by simpa using Array.mem_of_getElem? ht
  have hall : ([23, 23, 23].all fun u => !Tryd.prog.wantsStandIn u) = true := by kernel_rfl
  exact (show Tryd.prog.wantsStandIn t = false by simpa using List.all_eq_true.1 hall t hm)
/-- ████ THE CARD ████ -/
theorem proved : Rows.EccMetricCardSaid :=
  Claim7.holds_tied_plain_at .later [] _ _ _ _ said (fun _ h => by cases h) (by kernel_rfl) (fun _ h => by cases h) eccMetric_row_tie rfl ⟨rfl, rfl⟩ (by kernel_rfl) rfl plain (by kernel_rfl)
end Go.Proofs.YtbhefdincmfmjaaDoor.eccMetric
