/-
  For all two lists of operations, MemoryClones returns true: for at most 50 operations each, of which one list is performed on a memory and the other one on its clone, neither affects the other one; and the chapter's examples hold.
-/
import Derived.Test.YtehpbjkacdmlaaaDoorMLives
import Derived.Test.YtehpbjkacdmlaaaDoorMSame
import Derived.Test.YtehpbjkacdmlaaaDoorMOpen
import Derived.Deep.DeepCutAuto
import Derived.Deep.RegionHeld3
import Derived.Deep.LoopGhost
import Derived.Deep.QuietTactic
namespace Go.Proofs.YtehpbjkacdmlaaaDoor.memoryClones
open Go.ChangeShapes Go.WideShapes Go.ChangeAt Go.RowKit
open Go.ChangeMaps (open_string shut_string)
set_option linter.unusedVariables false

set_option maxRecDepth 100000 in
set_option maxHeartbeats 1000000 in
theorem walk (a0 : Option Addr) (n0 c0 : Nat) (z0 : List M.Opn) (a1 : Option Addr) (n1 c1 : Nat) (z1 : List M.Opn) (w : World) (tb : E.Tab w) (l0 : z0.length = n0) (cp0 : n0 ≤ c0 ∧ c0 ≤ maxLen) (nz0 : a0 = none → c0 = 0) (rd0 : M.RdsOpn w w.heap.size a0 z0) (ok0 : ∀ x ∈ z0, x.Ok) (l1 : z1.length = n1) (cp1 : n1 ≤ c1 ∧ c1 ≤ maxLen) (nz1 : a1 = none → c1 = 0) (rd1 : M.RdsOpn w w.heap.size a1 z1) (ok1 : ∀ x ∈ z1, x.Ok) :
    Calls Tryd.prog 9 #[.slice a0 n0 c0, .slice a1 n1 c1] w fun e w' => e = .returned (.bool true) ∧ Below w.heap.size w w' := by
  have TB := Lib.hid tb
  have HL := Lib.hid (And.intro l0 l1)
  have HR0 := Lib.hid rd0
  have HR1 := Lib.hid rd1
  have HOK := Lib.hid (And.intro ok0 ok1)
  clear tb l0 l1 cp0 cp1 nz0 nz1 rd0 rd1 ok0 ok1
  go_enter Tryd.func9, Tryd.ntmps9
  go_wp2_with fail
  refine (M.made_any 8 (by decide) (by decide) _ TB.out).mono ?_
  rintro r w2 ⟨bm, vm, rfl, hm⟩
  have HM := Lib.hid hm
  clear hm
  go_wp2_with fail
  refine (M.rnew_any (8 : Nat) w2).mono ?_
  intro r w3 hp
  obtain ⟨br, vr, rfl, hmr⟩ := M.newPost_get (n := 8) (by decide) (by decide) hp
  have P0 : Hid (M.Pair w3 bm vm br vr (M.Mem.new 8) ∧ (∀ k, (H.FT bm vm k ∨ H.FT br vr k) → w.heap.size ≤ k) ∧ Below w.heap.size w w3) := Lib.hid
    ⟨⟨HM.out.1.keep hmr.2.2, hmr.1, fun k hk hk2 => by have := HM.out.1.lt k hk; have := hmr.2.1 k hk2; omega⟩, fun k hk => by rcases hk with hk | hk; exact HM.out.2.1 k hk; exact Nat.le_trans HM.out.2.2.size (hmr.2.1 k hk), HM.out.2.2.trans (hmr.2.2.mono HM.out.2.2.size)⟩
  have OK0 := Lib.hid (M.new_ok (n := 8) (by decide) (by decide))
  clear hp hmr
  by_cases hbig : (50 : Int) < (n0 : Int)
  · go_wp2_with fail
    refine (M.plives_any _ (TB.out.below TB.out.pos P0.out.2.2)).mono ?_
    rintro r wl ⟨rfl, hl⟩
    have HB := Lib.hid ((P0.out.2.2).trans (hl.mono (P0.out.2.2).size))
    clear hl
    go_wp2_with fail
    go_ret
    exact ⟨rfl, HB.out⟩
  · by_cases hbig1 : (50 : Int) < (n1 : Int)
    · go_wp2_with fail
      refine (M.plives_any _ (TB.out.below TB.out.pos P0.out.2.2)).mono ?_
      rintro r wl ⟨rfl, hl⟩
      have HB := Lib.hid ((P0.out.2.2).trans (hl.mono (P0.out.2.2).size))
      clear hl
      go_wp2_with fail
      go_ret
      exact ⟨rfl, HB.out⟩
    · have hn0 : n0 ≤ 50 := by omega
      have hn1 : n1 ≤ 50 := by omega
      have OK1 : Hid (((M.Mem.new 8).write 2 5).ok ∧ ((M.Mem.new 8).write 2 5).count ≤ 1) := Lib.hid ⟨M.write_ok OK0.out 2 (by decide), M.write_count_le _ _ _⟩
      go_wp2_with fail
      refine (M.pwrite_any P0.out.1.pm OK0.out (TB.out.below TB.out.pos P0.out.2.2) (by decide) 2 5 (by decide)).mono ?_
      rintro r w4 ⟨rfl, hp, hs⟩
      have HS := Lib.hid (And.intro hp hs)
      clear hp hs
      go_wp2_with fail
      refine (M.rwrite_any (P0.out.1.right HS.out.2) OK0.out (by decide) 2 5 (by decide)).mono ?_
      rintro r w5 ⟨rfl, hp2, hs2⟩
      have hpr := P0.out.1.two HS.out.1 HS.out.2 hp2 hs2
      have P1 : Hid (M.Pair w5 bm vm br vr ((M.Mem.new 8).write 2 5) ∧ Below w.heap.size w w5) := Lib.hid ⟨hpr.1, P0.out.2.2.trans (hpr.2.below P0.out.2.2.size P0.out.2.1)⟩
      clear hp2 hs2 hpr
      go_wp2_with fail
      refine (M.pclone_any P1.out.1.pm OK1.out.1).mono ?_
      rintro r w6 ⟨bc, vc, rfl, hm1⟩
      have HM1 := Lib.hid hm1
      clear hm1
      go_wp2_with fail
      refine (M.rclone_any (P1.out.1.rm.keep HM1.out.2.2) OK1.out.1).mono ?_
      rintro r w7 ⟨bq, vq, rfl, hm2⟩
      have hb2 := HM1.out.2.2.trans (hm2.2.2.mono HM1.out.2.2.size)
      have F0 : Hid (M.Four w w7 bm vm br vr ((M.Mem.new 8).write 2 5) bc vc bq vq ((M.Mem.new 8).write 2 5)) := Lib.hid
        ⟨P1.out.1.keep hb2, ⟨HM1.out.1.keep hm2.2.2, hm2.1, fun k hk hk2 => by have := HM1.out.1.lt k hk; have := hm2.2.1 k hk2; omega⟩,
          fun k hk hk2 => by
            have h1 := P1.out.1.lt k hk
            rcases hk2 with h2 | h2
            · have := HM1.out.2.1 k h2; omega
            · have := hm2.2.1 k h2; have := HM1.out.2.2.size; omega,
          P0.out.2.1, fun k hk => by
            have := P1.out.2.size
            rcases hk with h2 | h2
            · have := HM1.out.2.1 k h2; omega
            · have := hm2.2.1 k h2; have := HM1.out.2.2.size; omega,
          P1.out.2.trans (hb2.mono P1.out.2.size)⟩
      clear hm2 hb2
      go_wp2_with fail
      go_loopg [10, 5, 6, 8, 9, 11, 12] (max n0 n1) (fun g i pm pr pc pq _ _ wr => ∃ (k : Nat) (m c : M.Mem) (bm br bc bq : Nat) (vm vr vc vq : Value), k + g = max n0 n1 ∧ i = .int .i64 (k : Nat) ∧ pm = .pointer (some ⟨bm, 0, none⟩) ∧ pr = .pointer (some ⟨br, 0, none⟩) ∧ pc = .pointer (some ⟨bc, 0, none⟩) ∧ pq = .pointer (some ⟨bq, 0, none⟩) ∧ M.Four w wr bm vm br vr m bc vc bq vq c ∧ (m.ok ∧ c.ok) ∧ (m.count ≤ k + 1 ∧ c.count ≤ k + 1))
      case atStart => exact ⟨0, _, _, bm, br, bc, bq, vm, vr, vc, vq, Nat.zero_add _, rfl, rfl, rfl, rfl, rfl, F0.out, ⟨OK1.out.1, OK1.out.1⟩, ⟨OK1.out.2, OK1.out.2⟩⟩
      case round =>
        obtain ⟨k, m, c, bm, br, bc, bq, vm, vr, vc, vq, hg, rfl, rfl, rfl, rfl, rfl, hfo, hok, hct⟩ := hrel
        have HG := Lib.hid hg
        have HP := Lib.hid (And.intro hfo (And.intro hok hct))
        have hB := hfo.below
        have hk0 : (0 : Int) ≤ (k : Int) := by omega
        have hkm : k ≤ max n0 n1 := by omega
        clear hg hfo hok hct
        by_cases hlta : k < n0
        · have hka : (k : Int) < (n0 : Int) := by omega
          obtain ⟨o, ho⟩ : ∃ e, z0[k]? = some e := ⟨_, List.getElem?_eq_getElem (by rw [HL.out.1]; exact hlta)⟩
          obtain ⟨ada, rfl, _, e0, e1, e2, e3⟩ := (HR0.out.below hB) k o ho
          have HS := Lib.hid (M.step_any HP.out.1.one HP.out.2.1.1 (TB.out.below TB.out.pos hB) (by have := HP.out.2.2.1; omega) o (HOK.out.1 o (List.mem_of_getElem? ho)))
          have HCT := Lib.hid (M.stepM_count m o)
          have HSO := Lib.hid (M.stepM_ok HP.out.2.1.1 (HOK.out.1 o (List.mem_of_getElem? ho)))
          have HLT := Lib.hid (show k < max n0 n1 by omega)
          clear hB ho hlta
          generalize M.stepM m o = m2 at *
          by_cases hltb : k < n1
          · have hkb : (k : Int) < (n1 : Int) := by omega
            obtain ⟨p, hp⟩ : ∃ e, z1[k]? = some e := ⟨_, List.getElem?_eq_getElem (by rw [HL.out.2]; exact hltb)⟩
            have HPP := Lib.hid (fun W (h : Below w.heap.size w W) => (HR1.out.below h) k p hp)
            have HOP := Lib.hid (HOK.out.2 p (List.mem_of_getElem? hp))
            clear hp hltb
            go_wp2_with fail
            refine HS.out.mono ?_
            rintro r w8 ⟨bm2, vm2, br2, vr2, rfl, hp2, hs2, h1, h2⟩
            have F8 := Lib.hid (HP.out.1.step hp2 hs2 h1 h2)
            clear hp2 hs2 h1 h2
            obtain ⟨adb, rfl, _, g0, g1, g2, g3⟩ := HPP.out w8 F8.out.below
            have HS2 := Lib.hid (M.step_any F8.out.two HP.out.2.1.2 (TB.out.below TB.out.pos F8.out.below) (by have := HP.out.2.2.2; omega) p HOP.out)
            have HCT2 := Lib.hid (M.stepM_count c p)
            have HSO2 := Lib.hid (M.stepM_ok HP.out.2.1.2 HOP.out)
            generalize M.stepM c p = c2 at *
            go_wp2_with fail
            refine HS2.out.mono ?_
            rintro r w9 ⟨bc2, vc2, bq2, vq2, rfl, hp2, hs2, h1, h2⟩
            have F9 := Lib.hid ((F8.out.swap.step hp2 hs2 h1 h2).swap)
            clear hp2 hs2 h1 h2
            go_wp2_with fail
            go_roundg (gk - 1)
            case measure => have := HG.out; have := HLT.out; omega
            case rel => exact ⟨k + 1, m2, c2, bm2, br2, bc2, bq2, vm2, vr2, vc2, vq2, by have := HG.out; have := HLT.out; omega, by go_num, rfl, rfl, rfl, rfl, F9.out, ⟨HSO.out, HSO2.out⟩, by have := HCT.out; have := HCT2.out; have := HP.out.2.2; omega⟩
          · have hkb : ¬ (k : Int) < (n1 : Int) := by omega
            clear hltb
            go_wp2_with fail
            refine HS.out.mono ?_
            rintro r w8 ⟨bm2, vm2, br2, vr2, rfl, hp2, hs2, h1, h2⟩
            have F8 := Lib.hid (HP.out.1.step hp2 hs2 h1 h2)
            clear hp2 hs2 h1 h2
            go_wp2_with fail
            go_roundg (gk - 1)
            case measure => have := HG.out; have := HLT.out; omega
            case rel => exact ⟨k + 1, m2, c, bm2, br2, bc, bq, vm2, vr2, vc, vq, by have := HG.out; have := HLT.out; omega, by go_num, rfl, rfl, rfl, rfl, F8.out, ⟨HSO.out, HP.out.2.1.2⟩, by have := HCT.out; have := HP.out.2.2; omega⟩
        · have hka : ¬ (k : Int) < (n0 : Int) := by omega
          by_cases hltb : k < n1
          · have hkb : (k : Int) < (n1 : Int) := by omega
            obtain ⟨p, hp⟩ : ∃ e, z1[k]? = some e := ⟨_, List.getElem?_eq_getElem (by rw [HL.out.2]; exact hltb)⟩
            obtain ⟨adb, rfl, _, g0, g1, g2, g3⟩ := (HR1.out.below hB) k p hp
            have HS2 := Lib.hid (M.step_any HP.out.1.two HP.out.2.1.2 (TB.out.below TB.out.pos hB) (by have := HP.out.2.2.2; omega) p (HOK.out.2 p (List.mem_of_getElem? hp)))
            have HCT2 := Lib.hid (M.stepM_count c p)
            have HSO2 := Lib.hid (M.stepM_ok HP.out.2.1.2 (HOK.out.2 p (List.mem_of_getElem? hp)))
            have HLT := Lib.hid (show k < max n0 n1 by omega)
            clear hB hp hlta hltb
            generalize M.stepM c p = c2 at *
            go_wp2_with fail
            refine HS2.out.mono ?_
            rintro r w9 ⟨bc2, vc2, bq2, vq2, rfl, hp2, hs2, h1, h2⟩
            have F9 := Lib.hid ((HP.out.1.swap.step hp2 hs2 h1 h2).swap)
            clear hp2 hs2 h1 h2
            go_wp2_with fail
            go_roundg (gk - 1)
            case measure => have := HG.out; have := HLT.out; omega
            case rel => exact ⟨k + 1, m, c2, bm, br, bc2, bq2, vm, vr, vc2, vq2, by have := HG.out; have := HLT.out; omega, by go_num, rfl, rfl, rfl, rfl, F9.out, ⟨HP.out.2.1.1, HSO2.out⟩, by have := HCT2.out; have := HP.out.2.2; omega⟩
          · have hkb : ¬ (k : Int) < (n1 : Int) := by omega
            have HTB := Lib.hid (TB.out.below TB.out.pos hB)
            clear hlta hltb hB
            go_wp2_with fail
            refine (M.same_any HP.out.1.one HP.out.2.1.1 HTB.out).mono ?_
            rintro r w8 ⟨rfl, nn, hw8⟩
            have F8 : Hid (M.Four w w8 bm vm br vr m bc vc bq vq c) := Lib.hid (by rw [hw8]; exact HP.out.1.drewN nn)
            clear hw8
            go_wp2_with fail
            refine (M.same_any F8.out.two HP.out.2.1.2 (TB.out.below TB.out.pos F8.out.below)).mono ?_
            rintro r w9 ⟨rfl, n2, hw9⟩
            have F9 : Hid (M.Four w w9 bm vm br vr m bc vc bq vq c) := Lib.hid (by rw [hw9]; exact F8.out.drewN n2)
            clear hw9
            go_wp2_with fail
            refine (M.plives_any _ (TB.out.below TB.out.pos F9.out.below)).mono ?_
            rintro r wl ⟨rfl, hl⟩
            have HB := Lib.hid ((F9.out.below).trans (hl.mono (F9.out.below).size))
            clear hl
            go_wp2_with fail
            go_ret
            exact ⟨rfl, HB.out⟩

theorem reads (os : Os) {H0 : Type} (enc : TypeId × Value → H0) : ∃ places, DataW.whole enc Tryd.prog ((Go.Proofs.YtehpbjkacdmlaaaDoor.E.laidWorld os).forCall (fun _ _ => 0) ⟨#[], #[.slice none 0 0, .slice none 0 0], []⟩).memory Tryd.f9.params.toList Rows.memoryClonesSpec.vars false (#[.slice none 0 0, .slice none 0 0] : Array Value).toList 8 = some ([.nil, .nil], [], places) :=
  ⟨[], by kernel_rfl⟩
set_option maxRecDepth 100000 in
theorem lifted (os : Os) (started : os.Started) (H0 : Type) (enc : TypeId × Value → H0) (F0 : Stop.Interp) :
    ReturnsInHanded {} Tryd.checked os 9 .any ((OpenSpec.ofChange Rows.memoryClonesSpec).preRow enc Tryd.prog Tryd.f9 Rows.memoryClonesRow.domain false Rows.memoryClonesRow.laid) (((OpenSpec.ofChange Rows.memoryClonesSpec).at F0).post enc Tryd.prog Tryd.f9 false true false false) := by
  obtain ⟨places, hx⟩ := reads os enc
  refine returnsInHanded_of_row (C := Tryd.checked) (s := (OpenSpec.ofChange Rows.memoryClonesSpec)) Go.Proofs.YtehpbjkacdmlaaaDoor.O.own started (by kernel_rfl) Tryd.func9
    (witness_row_at (enc := enc) (C := Tryd.checked) false (Go.Proofs.YtehpbjkacdmlaaaDoor.E.laidWorld os) #[.slice none 0 0, .slice none 0 0] rfl (by kernel_rfl) (by kernel_rfl) (by kernel_rfl)
      (OpenSpec.preRow_of_cond 8 hx (by kernel_rfl) (fun k hk => by cases hk) (by kernel_rfl) (Go.Proofs.YtehpbjkacdmlaaaDoor.E.laid_met os _))) ?_
  intro W base args ds gs before hval0 hW _ hk0 hsz0 hL _ _
  have hsz : (DataW.weightsEach Tryd.prog (Tryd.f9.params.toList ++ (OpenSpec.ofChange Rows.memoryClonesSpec).bare.plain.varTypes Tryd.prog) (ds ++ gs)).all (· ≤ reachBytes) = true := hsz0
  clear hsz0
  have hval : ∀ (j : Nat) t v, Tryd.f9.params[j]? = some t → args[j]? = some v → Value.okWide Tryd.prog W .any base t v := hval0
  have hW' := hW
  obtain ⟨p, q, hA0, hV, rfl, hfz, hnd⟩ := hW
  have hA : DataW.TrodAll enc Tryd.prog W 0 (fun _ => true) true Tryd.f9.params.toList args.toList ds p := hA0
  rw [Tryd.params9] at hA hval hsz
  obtain ⟨v0, vs0, d0, ds0, p0, q0, hargs, rfl, rfl, h0, r0⟩ := trodAll_cons hA
  obtain ⟨v1, vs1, d1, ds1, p1, q1, rfl, rfl, rfl, h1, r1⟩ := trodAll_cons r0
  obtain ⟨rfl, rfl, rfl⟩ := trodAll_nil r1
  obtain rfl : args = #[v0, v1] := by cases args; simp_all
  obtain ⟨rfl, rfl⟩ := trodVars_none hV
  obtain ⟨a0, n0, c0, rfl⟩ := okWide_slice Tryd.underlying22 (hval 0 22 v0 rfl rfl)
  have k0 := h0
  have lt0 : ∀ x ∈ p0, x.block < W.heap.size := by obtain ⟨m, hm⟩ := k0; exact DataW.trod_lt m _ _ _ hm
  obtain ⟨z0, l0, cp0, cq0, nz0, rd0, ok0⟩ := Go.Proofs.YtehpbjkacdmlaaaDoor.M.open_Opns h0
  obtain ⟨a1, n1, c1, rfl⟩ := okWide_slice Tryd.underlying22 (hval 1 22 v1 rfl rfl)
  have k1 := h1
  have lt1 : ∀ x ∈ p1, x.block < W.heap.size := by obtain ⟨m, hm⟩ := k1; exact DataW.trod_lt m _ _ _ hm
  obtain ⟨z1, l1, cp1, cq1, nz1, rd1, ok1⟩ := Go.Proofs.YtehpbjkacdmlaaaDoor.M.open_Opns h1
  clear hA0 hval0
  have tb := Go.Proofs.YtehpbjkacdmlaaaDoor.E.tab_of_laid hL
  refine (walk a0 n0 c0 z0 a1 n1 c1 z1 W tb l0 ⟨cp0, cq0⟩ nz0 rd0 ok0 l1 ⟨cp1, cq1⟩ nz1 rd1 ok1).mono fun e W' ⟨he, bel⟩ => ?_
  subst he
  exact ⟨_, rfl, _, _, _, [], _, [], hW', trodAll_mk1 (shut_bool Tryd.underlying4 _), (trodAll_cons_mk (Below.trod Go.Proofs.YtehpbjkacdmlaaaDoor.O.laidOut (by kernel_rfl) (of_decide_eq_true (by kernel_rfl)) k0 bel lt0) (trodAll_cons_mk (Below.trod Go.Proofs.YtehpbjkacdmlaaaDoor.O.laidOut (by kernel_rfl) (of_decide_eq_true (by kernel_rfl)) k1 bel lt1) trodAll_mk0)), rfl, bel.frame _, fun h => by cases h⟩

theorem said : Rows.MemoryClonesSaid :=
  OpenClaim.holds_of_cond 9 Tryd.f9 rfl rfl rfl rfl rfl rfl rfl ⟨rfl, rfl, rfl, rfl, rfl⟩ rfl rfl rfl rfl rfl (by kernel_rfl) Tryd.func9 (by kernel_rfl)
    (of_decide_eq_true (by kernel_rfl)) (by unfold Func.isWrapper; first | (rw [if_pos (by decide +kernel)]; kernel_rfl) | (rw [if_neg (by decide +kernel)]; exact ⟨rfl, rfl⟩))
    (fun os started H0 enc _ F0 => by rw [OpenClaim.pre_eq_preRow]; exact lifted os started H0 enc F0)
theorem plain (f : FuncId) (fn : Func) (hf : Tryd.pinned.checked.prog.funcNamed "perigee/perigeelaw06.MemoryClones" = some f) (hfn : Tryd.pinned.checked.prog.funcs[f]? = some fn) :
    false = Tryd.pinned.checked.prog.looks [] ∧ ∀ (j : Nat) t, fn.params[j]? = some t → Tryd.pinned.checked.prog.wantsStandIn t = false := by
  obtain rfl : f = 9 := Option.some.inj ((show Tryd.prog.funcNamed "perigee/perigeelaw06.MemoryClones" = some 9 by kernel_rfl).symm.trans hf) |>.symm
  obtain rfl : fn = Tryd.f9 := (Option.some.inj (Tryd.func9.symm.trans hfn)).symm
  refine ⟨by kernel_rfl, fun j t ht => ?_⟩
  rw [Tryd.params9] at ht
  have hm : t ∈ [22, 22] := by simpa using Array.mem_of_getElem? ht
  have hall : ([22, 22].all fun u => !Tryd.prog.wantsStandIn u) = true := by kernel_rfl
  exact (show Tryd.prog.wantsStandIn t = false by simpa using List.all_eq_true.1 hall t hm)
/-- ████ THE CARD ████ -/
theorem proved : Rows.MemoryClonesCardSaid :=
  Claim7.holds_tied_plain_at .later [] _ _ _ _ said (fun _ h => by cases h) (by kernel_rfl) (fun _ h => by cases h) memoryClones_row_tie rfl ⟨rfl, rfl⟩ (by kernel_rfl) rfl plain (by kernel_rfl)
end Go.Proofs.YtehpbjkacdmlaaaDoor.memoryClones
