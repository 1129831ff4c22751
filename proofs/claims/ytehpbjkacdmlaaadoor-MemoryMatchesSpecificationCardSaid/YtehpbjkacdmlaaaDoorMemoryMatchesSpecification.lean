/-
  For every number of words and every list of operations, MemoryMatchesSpecification returns true: for at most 100 operations all results are those of the specification, and so are all words in the end; and the chapter's examples hold.
-/
import Derived.Test.YtehpbjkacdmlaaaDoorMLives
import Derived.Test.YtehpbjkacdmlaaaDoorMSame
import Derived.Test.YtehpbjkacdmlaaaDoorMOpen
import Derived.Deep.DeepCutAuto
import Derived.Deep.RegionHeld3
import Derived.Deep.LoopGhost
import Derived.Deep.QuietTactic
namespace Go.Proofs.YtehpbjkacdmlaaaDoor.memoryMatchesSpecification
open Go.ChangeShapes Go.WideShapes Go.ChangeAt Go.RowKit
open Go.ChangeMaps (open_string shut_string)
set_option linter.unusedVariables false

set_option maxRecDepth 100000 in
set_option maxHeartbeats 1000000 in
theorem walk (a0 : Int) (a1 : Option Addr) (n1 c1 : Nat) (z1 : List M.Opn) (w : World) (tb : E.Tab w) (w0 : (Lit.int .i64 a0).wf = true) (l1 : z1.length = n1) (cp1 : n1 ≤ c1 ∧ c1 ≤ maxLen) (nz1 : a1 = none → c1 = 0) (rd1 : M.RdsOpn w w.heap.size a1 z1) (ok1 : ∀ x ∈ z1, x.Ok) :
    Calls Tryd.prog 3 #[.int .i64 a0, .slice a1 n1 c1] w fun e w' => e = .returned (.bool true) ∧ Below w.heap.size w w' := by
  have TB := Lib.hid tb
  have HL := Lib.hid l1
  have HR := Lib.hid rd1
  have HOK := Lib.hid ok1
  clear tb l1 cp1 nz1 rd1 ok1 w0
  go_enter Tryd.func3, Tryd.ntmps3
  by_cases hbig : (100 : Int) < (n1 : Int)
  · go_wp2_with fail
    refine (M.plives_any _ TB.out).mono ?_
    rintro r wl ⟨rfl, hl⟩
    have HB := Lib.hid hl
    clear hl
    go_wp2_with fail
    go_ret
    exact ⟨rfl, HB.out⟩
  · have hn : n1 ≤ 100 := by omega
    go_wp2_with fail
    refine (M.pnew_any a0 w TB.out).mono ?_
    intro r w2 hp
    by_cases hw : 1 ≤ a0 ∧ a0 ≤ 4096
    · obtain ⟨l, rfl⟩ : ∃ l : Nat, a0 = l := ⟨a0.toNat, by omega⟩
      obtain ⟨bm, vm, rfl, hmd⟩ := M.newPost_get (by omega) (by omega) hp
      have HW := Lib.hid (show 1 ≤ l ∧ l ≤ 4096 by omega)
      have HM := Lib.hid hmd
      clear hp hmd hw
      go_wp2_with fail
      refine (M.rnew_any (l : Nat) w2).mono ?_
      intro r w3 hp
      obtain ⟨br, vr, rfl, hmr⟩ := M.newPost_get HW.out.1 HW.out.2 hp
      have P0 : Hid (M.Pair w3 bm vm br vr (M.Mem.new l) ∧ (∀ k, H.FT bm vm k → w.heap.size ≤ k) ∧ (∀ k, H.FT br vr k → w.heap.size ≤ k) ∧ Below w.heap.size w w3) := Lib.hid
        ⟨⟨HM.out.1.keep hmr.2.2, hmr.1, fun k hk hk2 => by have := HM.out.1.lt k hk; have := hmr.2.1 k hk2; omega⟩, HM.out.2.1, fun k hk => by have := hmr.2.1 k hk; have := HM.out.2.2.size; omega, HM.out.2.2.trans (hmr.2.2.mono HM.out.2.2.size)⟩
      have OK0 := Lib.hid (M.new_ok HW.out.1 HW.out.2)
      clear hp hmr
      go_wp2_with fail
      go_loopg [9, 5, 7, 10] n1 (fun g i pm pr _ wr => ∃ (k : Nat) (m : M.Mem) (bm br : Nat) (vm vr : Value), k + g = n1 ∧ i = .int .i64 (k : Nat) ∧ pm = .pointer (some ⟨bm, 0, none⟩) ∧ pr = .pointer (some ⟨br, 0, none⟩) ∧ M.Pair wr bm vm br vr m ∧ m.ok ∧ m.count ≤ k ∧ (∀ k, H.FT bm vm k → w.heap.size ≤ k) ∧ (∀ k, H.FT br vr k → w.heap.size ≤ k) ∧ Below w.heap.size w wr)
      case atStart => exact ⟨0, _, bm, br, vm, vr, Nat.zero_add _, rfl, rfl, rfl, P0.out.1, OK0.out, Nat.zero_le _, P0.out.2⟩
      case round =>
        obtain ⟨k, m, bm, br, vm, vr, hg, rfl, rfl, rfl, hpr, hok, hct, hfm, hfr, hB⟩ := hrel
        have HG := Lib.hid hg
        have hk : k ≤ n1 := by omega
        have HP := Lib.hid (And.intro hpr (And.intro hok (And.intro hct (And.intro hfm (And.intro hfr hB)))))
        have htb := TB.out.below TB.out.pos hB
        have HTB := Lib.hid htb
        clear hg hpr hok hct hfm hfr htb
        by_cases hlt : k < n1
        · obtain ⟨o, ho⟩ : ∃ e, z1[k]? = some e := ⟨_, List.getElem?_eq_getElem (by rw [HL.out]; exact hlt)⟩
          obtain ⟨ad, rfl, _, e0, e1, e2, e3⟩ := (HR.out.below hB) k o ho
          have HS := Lib.hid (M.step_any HP.out.1 HP.out.2.1 HTB.out (by have := HP.out.2.2.1; omega) o (HOK.out o (List.mem_of_getElem? ho)))
          have HCT := Lib.hid (M.stepM_count m o)
          have HSO := Lib.hid (M.stepM_ok HP.out.2.1 (HOK.out o (List.mem_of_getElem? ho)))
          have HLT := Lib.hid hlt
          have hki : (k : Int) < (n1 : Int) := by omega
          have hk0 : (0 : Int) ≤ (k : Int) := by omega
          clear hlt ho hB
          generalize M.stepM m o = m2 at *
          go_wp2_with fail
          refine HS.out.mono ?_
          rintro r w4 ⟨bm2, vm2, br2, vr2, rfl, hp2, hs2, h1, h2⟩
          have HQ : Hid (M.Pair w4 bm2 vm2 br2 vr2 m2 ∧ (∀ k, H.FT bm2 vm2 k → w.heap.size ≤ k) ∧ (∀ k, H.FT br2 vr2 k → w.heap.size ≤ k) ∧ Below w.heap.size w w4) := Lib.hid
            ⟨hp2, fun j hj => by rcases h1 j hj with h | h; exact HP.out.2.2.2.1 j h; exact Nat.le_trans HP.out.2.2.2.2.2.size h, fun j hj => by rcases h2 j hj with h | h; exact HP.out.2.2.2.2.1 j h; exact Nat.le_trans HP.out.2.2.2.2.2.size h,
              HP.out.2.2.2.2.2.trans (hs2.below HP.out.2.2.2.2.2.size fun j hj => by rcases hj with h | h; exact HP.out.2.2.2.1 j h; exact HP.out.2.2.2.2.1 j h)⟩
          clear hp2 hs2 h1 h2
          go_wp2_with fail
          go_roundg (gk - 1)
          case measure => have := HG.out; have := HLT.out; omega
          case rel => exact ⟨k + 1, m2, bm2, br2, vm2, vr2, by have := HG.out; have := HLT.out; omega, by go_num, rfl, rfl, HQ.out.1, HSO.out, by have := HCT.out; have := HP.out.2.2.1; omega, HQ.out.2⟩
        · obtain rfl : k = n1 := by omega
          have hki : ¬ (k : Int) < (k : Int) := by omega
          clear hlt hk hB
          go_wp2_with fail
          refine (M.same_any HP.out.1 HP.out.2.1 HTB.out).mono ?_
          rintro r w4 ⟨rfl, nn, hw4⟩
          have HB4 : Hid (Below w.heap.size w w4) := Lib.hid (by rw [hw4]; exact below_drewN HP.out.2.2.2.2.2 nn)
          clear hw4
          go_wp2_with fail
          refine (M.plives_any _ (TB.out.below TB.out.pos HB4.out)).mono ?_
          rintro r wl ⟨rfl, hl⟩
          have HB := Lib.hid (HB4.out.trans (hl.mono HB4.out.size))
          clear hl
          go_wp2_with fail
          go_ret
          exact ⟨rfl, HB.out⟩
    · obtain ⟨rfl, rfl⟩ := M.newPost_not (by omega) hp
      clear hp
      have HW := Lib.hid (show a0 < 1 ∨ 4096 < a0 by omega)
      clear hw
      go_wp2_with fail
      refine (M.rnew_any a0 w2).mono ?_
      intro r w3 hp
      obtain ⟨rfl, hw3⟩ := M.newPost_not HW.out hp
      subst hw3
      clear hp
      go_wp2_with fail
      refine (M.plives_any _ TB.out).mono ?_
      rintro r wl ⟨rfl, hl⟩
      have HB := Lib.hid hl
      clear hl
      go_wp2_with fail
      go_ret
      exact ⟨rfl, HB.out⟩

theorem reads (os : Os) {H0 : Type} (enc : TypeId × Value → H0) : ∃ places, DataW.whole enc Tryd.prog ((Go.Proofs.YtehpbjkacdmlaaaDoor.E.laidWorld os).forCall (fun _ _ => 0) ⟨#[], #[.int .i64 0, .slice none 0 0], []⟩).memory Tryd.f3.params.toList Rows.memoryMatchesSpecificationSpec.vars false (#[.int .i64 0, .slice none 0 0] : Array Value).toList 8 = some ([.lit (.int .i64 0), .nil], [], places) :=
  ⟨[], by kernel_rfl⟩
set_option maxRecDepth 100000 in
theorem lifted (os : Os) (started : os.Started) (H0 : Type) (enc : TypeId × Value → H0) (F0 : Stop.Interp) :
    ReturnsInHanded {} Tryd.checked os 3 .any ((OpenSpec.ofChange Rows.memoryMatchesSpecificationSpec).preRow enc Tryd.prog Tryd.f3 Rows.memoryMatchesSpecificationRow.domain false Rows.memoryMatchesSpecificationRow.laid) (((OpenSpec.ofChange Rows.memoryMatchesSpecificationSpec).at F0).post enc Tryd.prog Tryd.f3 false true false false) := by
  obtain ⟨places, hx⟩ := reads os enc
  refine returnsInHanded_of_row (C := Tryd.checked) (s := (OpenSpec.ofChange Rows.memoryMatchesSpecificationSpec)) Go.Proofs.YtehpbjkacdmlaaaDoor.O.own started (by kernel_rfl) Tryd.func3
    (witness_row_at (enc := enc) (C := Tryd.checked) false (Go.Proofs.YtehpbjkacdmlaaaDoor.E.laidWorld os) #[.int .i64 0, .slice none 0 0] rfl (by kernel_rfl) (by kernel_rfl) (by kernel_rfl)
      (OpenSpec.preRow_of_cond 8 hx (by kernel_rfl) (fun k hk => by cases hk) (by kernel_rfl) (Go.Proofs.YtehpbjkacdmlaaaDoor.E.laid_met os _))) ?_
  intro W base args ds gs before hval0 hW _ hk0 hsz0 hL _ _
  have hsz : (DataW.weightsEach Tryd.prog (Tryd.f3.params.toList ++ (OpenSpec.ofChange Rows.memoryMatchesSpecificationSpec).bare.plain.varTypes Tryd.prog) (ds ++ gs)).all (· ≤ reachBytes) = true := hsz0
  clear hsz0
  have hval : ∀ (j : Nat) t v, Tryd.f3.params[j]? = some t → args[j]? = some v → Value.okWide Tryd.prog W .any base t v := hval0
  have hW' := hW
  obtain ⟨p, q, hA0, hV, rfl, hfz, hnd⟩ := hW
  have hA : DataW.TrodAll enc Tryd.prog W 0 (fun _ => true) true Tryd.f3.params.toList args.toList ds p := hA0
  rw [Tryd.params3] at hA hval hsz
  obtain ⟨v0, vs0, d0, ds0, p0, q0, hargs, rfl, rfl, h0, r0⟩ := trodAll_cons hA
  obtain ⟨v1, vs1, d1, ds1, p1, q1, rfl, rfl, rfl, h1, r1⟩ := trodAll_cons r0
  obtain ⟨rfl, rfl, rfl⟩ := trodAll_nil r1
  obtain rfl : args = #[v0, v1] := by cases args; simp_all
  obtain ⟨rfl, rfl⟩ := trodVars_none hV
  obtain ⟨a0, rfl, rfl, rfl, w0⟩ := open_int Tryd.underlying3 (hval 0 3 v0 rfl rfl) h0
  obtain ⟨a1, n1, c1, rfl⟩ := okWide_slice Tryd.underlying22 (hval 1 22 v1 rfl rfl)
  have k1 := h1
  have lt1 : ∀ x ∈ p1, x.block < W.heap.size := by obtain ⟨m, hm⟩ := k1; exact DataW.trod_lt m _ _ _ hm
  obtain ⟨z1, l1, cp1, cq1, nz1, rd1, ok1⟩ := Go.Proofs.YtehpbjkacdmlaaaDoor.M.open_Opns h1
  clear hA0 hval0
  have tb := Go.Proofs.YtehpbjkacdmlaaaDoor.E.tab_of_laid hL
  refine (walk a0 a1 n1 c1 z1 W tb w0 l1 ⟨cp1, cq1⟩ nz1 rd1 ok1).mono fun e W' ⟨he, bel⟩ => ?_
  subst he
  exact ⟨_, rfl, _, _, _, [], _, [], hW', trodAll_mk1 (shut_bool Tryd.underlying4 _), (trodAll_cons_mk (shut_int Tryd.underlying3 w0) (trodAll_cons_mk (Below.trod Go.Proofs.YtehpbjkacdmlaaaDoor.O.laidOut (by kernel_rfl) (of_decide_eq_true (by kernel_rfl)) k1 bel lt1) trodAll_mk0)), rfl, bel.frame _, fun h => by cases h⟩

theorem said : Rows.MemoryMatchesSpecificationSaid :=
  OpenClaim.holds_of_cond 3 Tryd.f3 rfl rfl rfl rfl rfl rfl rfl ⟨rfl, rfl, rfl, rfl, rfl⟩ rfl rfl rfl rfl rfl (by kernel_rfl) Tryd.func3 (by kernel_rfl)
    (of_decide_eq_true (by kernel_rfl)) (by unfold Func.isWrapper; first | (rw [if_pos (by decide +kernel)]; kernel_rfl) | (rw [if_neg (by decide +kernel)]; exact ⟨rfl, rfl⟩))
    (fun os started H0 enc _ F0 => by rw [OpenClaim.pre_eq_preRow]; exact lifted os started H0 enc F0)
theorem plain (f : FuncId) (fn : Func) (hf : Tryd.pinned.checked.prog.funcNamed "perigee/perigeelaw06.MemoryMatchesSpecification" = some f) (hfn : Tryd.pinned.checked.prog.funcs[f]? = some fn) :
    false = Tryd.pinned.checked.prog.looks [] ∧ ∀ (j : Nat) t, fn.params[j]? = some t → Tryd.pinned.checked.prog.wantsStandIn t = false := by
  obtain rfl : f = 3 := Option.some.inj ((show Tryd.prog.funcNamed "perigee/perigeelaw06.MemoryMatchesSpecification" = some 3 by kernel_rfl).symm.trans hf) |>.symm
  obtain rfl : fn = Tryd.f3 := (Option.some.inj (Tryd.func3.symm.trans hfn)).symm
  refine ⟨by kernel_rfl, fun j t ht => ?_⟩
  rw [Tryd.params3] at ht
  have hm : t ∈ [3, 22] := by simpa using Array.mem_of_getElem? ht
  have hall : ([3, 22].all fun u => !Tryd.prog.wantsStandIn u) = true := by kernel_rfl
  exact (show Tryd.prog.wantsStandIn t = false by simpa using List.all_eq_true.1 hall t hm)
/-- ████ THE CARD ████ -/
theorem proved : Rows.MemoryMatchesSpecificationCardSaid :=
  Claim7.holds_tied_plain_at .later [] _ _ _ _ said (fun _ h => by cases h) (by kernel_rfl) (fun _ h => by cases h) memoryMatchesSpecification_row_tie rfl ⟨rfl, rfl⟩ (by kernel_rfl) rfl plain (by kernel_rfl)
end Go.Proofs.YtehpbjkacdmlaaaDoor.memoryMatchesSpecification
