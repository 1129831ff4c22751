/-
  For every number of words, list of numbers and list of bits, JournalFlips returns true: the records are read after one bit of each word, or of none, was flipped; and the chapter's examples hold.
-/
import Derived.Test.YtnoohhpajoaaoaaDoorJLives
import Derived.Deep.DeepCutAuto
import Derived.Deep.RegionHeld3
import Derived.Deep.LoopGhost
import Derived.Deep.QuietTactic
namespace Go.Proofs.YtnoohhpajoaaoaaDoor.journalFlips
open Go.ChangeShapes Go.WideShapes Go.ChangeAt Go.RowKit
open Go.ChangeMaps (open_string shut_string)
set_option linter.unusedVariables false

set_option maxRecDepth 100000 in
set_option maxHeartbeats 1000000 in
theorem walk (a0 : Int) (a1 : Option Addr) (n1 c1 : Nat) (z1 : List Int) (a2 : Option Addr) (n2 c2 : Nat) (z2 : List Int) (w : World) (tb : E.Tab w) (w0 : (Lit.int .i64 a0).wf = true) (l1 : z1.length = n1) (cp1 : n1 ≤ c1 ∧ c1 ≤ maxLen) (nz1 : a1 = none → c1 = 0) (rd1 : H.RdI w w.heap.size .i64 a1 z1) (wf1 : ∀ n ∈ z1, (Lit.int .i64 n).wf = true) (r1 : z1.length * 8 ≤ 140737488351232) (l2 : z2.length = n2) (cp2 : n2 ≤ c2 ∧ c2 ≤ maxLen) (nz2 : a2 = none → c2 = 0) (rd2 : H.RdI w w.heap.size .i64 a2 z2) (wf2 : ∀ n ∈ z2, (Lit.int .i64 n).wf = true) (r2 : z2.length * 8 ≤ 140737488351232) :
    Calls Tryd.prog 6 #[.int .i64 a0, .slice a1 n1 c1, .slice a2 n2 c2] w fun e w' => e = .returned (.bool true) ∧ Below w.heap.size w w' := by
  subst l2
  have HRB := Lib.hid rd2
  have HWB := Lib.hid (fun (x : Int) (hx : x ∈ z2) => H.i64_range (wf2 x hx))
  have hlb2 : z2.length ≤ 140737488351232 := by omega
  clear rd2 wf2 cp2 nz2 r2
  subst l1
  have hq0 := H.i64_range w0
  obtain ⟨n, hn⟩ : ∃ n, J.sizeL a0 = n := ⟨_, rfl⟩
  have hsz := J.sizeL_le a0
  rw [hn] at hsz
  have HSZ := Lib.hid (J.rsize_any a0 hq0.1 hq0.2 w)
  rw [hn] at HSZ
  have HRO := Lib.hid (J.rrows_any (c := c1) n hsz.1 (by omega) rd1 (Nat.le_refl _) (by omega) (fun x hx => H.i64_range (wf1 x hx)) (fun _ => True) (fun _ _ => trivial))
  have hel := J.rowsL_err hsz.1 z1
  have hlt := J.rowsL_lt n z1
  obtain ⟨rows, hrows⟩ : ∃ rows, J.rowsL n z1 = rows := ⟨_, rfl⟩
  rw [hrows] at HRO hel hlt
  have HEL := Lib.hid (And.intro hel hlt)
  have HTB := Lib.hid tb
  have HK := Lib.hid hsz
  have hus := J.errL_small (n := n) (by omega) hel
  have HUS := Lib.hid hus
  have HRL : Hid (rows.length ≤ 1000) := Lib.hid (by have h1 := J.rows_le_used rows; omega)
  clear hn hsz hrows hel hlt tb rd1 wf1 cp1 nz1 r1 w0 hq0 hus 
  go_enter Tryd.func6, Tryd.ntmps6
  go_wp2_with fail
  refine HSZ.out.mono ?_
  rintro r wa ⟨rfl, rfl⟩
  go_wp2_with fail
  refine HRO.out.mono ?_
  rintro r w1 ⟨vr, rfl, hrr, hb1⟩
  have HR1 := Lib.hid (hrr.mono (G' := fun k => k < w1.heap.size) fun k hk _ => hk)
  have HB1 := Lib.hid hb1
  have HT1 := Lib.hid (HTB.out.below HTB.out.pos hb1)
  clear hrr hb1
  go_wp2_with fail
  refine (J.fresh_any n HK.out.1 (by have := HK.out.2; omega) HT1.out HR1.out HEL.out.1 HEL.out.2).mono ?_
  intro r w2 hp
  obtain ⟨bj, bm, vm, m2, s2, FR2, ws2, rfl, hg, hcl, hr, ho, hl, hmut, hb2⟩ := J.FreshPost.good (Below.refl _ w1) hp
  have HMU : Hid (∀ k, k < w1.heap.size → ¬ J.Mut bj bm vm FR2 k) := Lib.hid (fun k hk e => by have := hmut k e; omega)
  have H2G := Lib.hid (And.intro hg (And.intro hr (And.intro ho (And.intro hl hcl))))
  clear hp hg hcl hr ho hl hmut hb2
  go_wp2_with fail
  go_loopg [11] n (fun g i wr => ∃ (k : Nat) (m : M.Mem), k + g = n ∧ k ≤ z2.length ∧ i = .int .i64 (k : Nat) ∧ J.JG w1 wr bj bm vm m s2 FR2 ws2 n 40000 ∧ ∀ a, k ≤ a → a < n → J.Clean m ws2 a)
  case atStart => exact ⟨0, m2, Nat.zero_add _, Nat.zero_le _, rfl, H2G.out.1, fun a _ ha => H2G.out.2.2.2.2 a ha⟩
  case round =>
    obtain ⟨k, m, hg, hkz, rfl, hj, hcl⟩ := hrel
    have HGG := Lib.hid hg
    have HJC := Lib.hid (And.intro hj hcl)
    have hkn : k ≤ n := by omega
    have hn9 : n ≤ 1000 := by have := HK.out.2; omega
    clear hg hj hcl
    by_cases hlt : k < n
    · have hki : (k : Int) < (n : Int) := by omega
      by_cases hlz : k < z2.length
      · have hkz2 : (k : Int) < (z2.length : Int) := by omega
        obtain ⟨ad, rfl, hblk, hx⟩ := HRB.out.below (HB1.out.trans (HJC.out.1.below.mono HB1.out.size)) k hlz
        obtain ⟨x, hxk⟩ : ∃ x, z2[k]? = some x := ⟨_, List.getElem?_eq_getElem hlz⟩
        rw [hxk] at hx
        simp only [Option.getD_some] at hx
        have hrg := HWB.out x (List.mem_of_getElem? hxk)
        obtain ⟨b, hb, hb40⟩ := H.around_nat x (m := 40) (by decide)
        have hb' : H.around x 40 = (b : Int) := hb
        have HA := Lib.hid (H.around_any x 40 hrg.1 hrg.2 (by decide) (by decide) wr)
        rw [hb'] at HA
        have HFL := Lib.hid (J.gflip HJC.out.1 (b := b) hlt (HJC.out.2 k (Nat.le_refl _) hlt))
        clear hb hb' hrg hxk hblk
        go_wp2_with fail
        refine HA.out.mono ?_
        rintro r w4 ⟨rfl, rfl⟩
        go_wp2_with fail
        refine HFL.out.mono ?_
        rintro r w5 ⟨e5, m5, rfl, hj5, hc5, _, _, _⟩
        have H5 := Lib.hid (And.intro hj5 hc5)
        clear hj5 hc5
        go_wp2_with fail
        go_roundg (gk - 1)
        case measure => have := HGG.out; omega
        case rel => exact ⟨k + 1, m5, by have := HGG.out; omega, hlz, by go_num, H5.out.1, fun a ha ha2 => H5.out.2 a (by omega) (HJC.out.2 a (by omega) ha2)⟩
      · have hkz2 : ¬ (k : Int) < (z2.length : Int) := by omega
        have HJ := Lib.hid (And.intro HJC.out.1 H2G.out.2.1)
        go_wp2_with fail
        refine (J.gopens HJ.out.1 HT1.out HK.out.1 (by have := HK.out.2; omega) (HR1.out.keep HJ.out.1.below)).mono ?_
        rintro r wr1 ⟨rfl, hb8⟩
        rw [HJ.out.2, decide_eq_true rfl]
        have HB8 := Lib.hid (HJ.out.1.below.trans (hb8.mono HJ.out.1.below.size))
        clear hb8
        go_wp2_with fail
        refine (J.glives HB8.out HT1.out).mono ?_
        rintro r wr2 ⟨rfl, hb⟩
        have HBE := Lib.hid hb
        clear hb
        go_wp2_with fail
        go_ret
        exact ⟨rfl, HB1.out.trans (HBE.out.mono HB1.out.size)⟩
    · have hki : ¬ (k : Int) < (n : Int) := by omega
      have HJ := Lib.hid (And.intro HJC.out.1 H2G.out.2.1)
      go_wp2_with fail
      refine (J.gopens HJ.out.1 HT1.out HK.out.1 (by have := HK.out.2; omega) (HR1.out.keep HJ.out.1.below)).mono ?_
      rintro r wr1 ⟨rfl, hb8⟩
      rw [HJ.out.2, decide_eq_true rfl]
      have HB8 := Lib.hid (HJ.out.1.below.trans (hb8.mono HJ.out.1.below.size))
      clear hb8
      go_wp2_with fail
      refine (J.glives HB8.out HT1.out).mono ?_
      rintro r wr2 ⟨rfl, hb⟩
      have HBE := Lib.hid hb
      clear hb
      go_wp2_with fail
      go_ret
      exact ⟨rfl, HB1.out.trans (HBE.out.mono HB1.out.size)⟩

theorem reads (os : Os) {H0 : Type} (enc : TypeId × Value → H0) : ∃ places, DataW.whole enc Tryd.prog ((Go.Proofs.YtnoohhpajoaaoaaDoor.E.laidWorld os).forCall (fun _ _ => 0) ⟨#[], #[.int .i64 0, .slice none 0 0, .slice none 0 0], []⟩).memory Tryd.f6.params.toList Rows.journalFlipsSpec.vars false (#[.int .i64 0, .slice none 0 0, .slice none 0 0] : Array Value).toList 8 = some ([.lit (.int .i64 0), .nil, .nil], [], places) :=
  ⟨[], by kernel_rfl⟩
set_option maxRecDepth 100000 in
theorem lifted (os : Os) (started : os.Started) (H0 : Type) (enc : TypeId × Value → H0) (F0 : Stop.Interp) :
    ReturnsInHanded {} Tryd.checked os 6 .any ((OpenSpec.ofChange Rows.journalFlipsSpec).preRow enc Tryd.prog Tryd.f6 Rows.journalFlipsRow.domain false Rows.journalFlipsRow.laid) (((OpenSpec.ofChange Rows.journalFlipsSpec).at F0).post enc Tryd.prog Tryd.f6 false true false false) := by
  obtain ⟨places, hx⟩ := reads os enc
  refine returnsInHanded_of_row (C := Tryd.checked) (s := (OpenSpec.ofChange Rows.journalFlipsSpec)) Go.Proofs.YtnoohhpajoaaoaaDoor.O.own started (by kernel_rfl) Tryd.func6
    (witness_row_at (enc := enc) (C := Tryd.checked) false (Go.Proofs.YtnoohhpajoaaoaaDoor.E.laidWorld os) #[.int .i64 0, .slice none 0 0, .slice none 0 0] rfl (by kernel_rfl) (by kernel_rfl) (by kernel_rfl)
      (OpenSpec.preRow_of_cond 8 hx (by kernel_rfl) (fun k hk => by cases hk) (by kernel_rfl) (Go.Proofs.YtnoohhpajoaaoaaDoor.E.laid_met os _))) ?_
  intro W base args ds gs before hval0 hW _ hk0 hsz0 hL _ _
  have hsz : (DataW.weightsEach Tryd.prog (Tryd.f6.params.toList ++ (OpenSpec.ofChange Rows.journalFlipsSpec).bare.plain.varTypes Tryd.prog) (ds ++ gs)).all (· ≤ reachBytes) = true := hsz0
  clear hsz0
  have hval : ∀ (j : Nat) t v, Tryd.f6.params[j]? = some t → args[j]? = some v → Value.okWide Tryd.prog W .any base t v := hval0
  have hW' := hW
  obtain ⟨p, q, hA0, hV, rfl, hfz, hnd⟩ := hW
  have hA : DataW.TrodAll enc Tryd.prog W 0 (fun _ => true) true Tryd.f6.params.toList args.toList ds p := hA0
  rw [Tryd.params6] at hA hval hsz
  obtain ⟨v0, vs0, d0, ds0, p0, q0, hargs, rfl, rfl, h0, r0⟩ := trodAll_cons hA
  obtain ⟨v1, vs1, d1, ds1, p1, q1, rfl, rfl, rfl, h1, r1⟩ := trodAll_cons r0
  obtain ⟨v2, vs2, d2, ds2, p2, q2, rfl, rfl, rfl, h2, r2⟩ := trodAll_cons r1
  obtain ⟨rfl, rfl, rfl⟩ := trodAll_nil r2
  obtain rfl : args = #[v0, v1, v2] := by cases args; simp_all
  obtain ⟨rfl, rfl⟩ := trodVars_none hV
  obtain ⟨a0, rfl, rfl, rfl, w0⟩ := open_int Tryd.underlying3 (hval 0 3 v0 rfl rfl) h0
  obtain ⟨a1, n1, c1, rfl⟩ := okWide_slice Tryd.underlying31 (hval 1 31 v1 rfl rfl)
  have k1 := h1
  have lt1 : ∀ x ∈ p1, x.block < W.heap.size := by obtain ⟨m, hm⟩ := k1; exact DataW.trod_lt m _ _ _ hm
  obtain ⟨z1, l1, cp1, cq1, nz1, rd1, wf1, bj1⟩ := Go.Proofs.YtnoohhpajoaaoaaDoor.O.open_isT Tryd.underlying31 Tryd.underlying3 (by kernel_rfl) h1
  have el1 := Go.Proofs.YtnoohhpajoaaoaaDoor.O.open_el Tryd.underlying31 Tryd.underlying3 (by kernel_rfl) k1
  obtain ⟨a2, n2, c2, rfl⟩ := okWide_slice Tryd.underlying31 (hval 2 31 v2 rfl rfl)
  have k2 := h2
  have lt2 : ∀ x ∈ p2, x.block < W.heap.size := by obtain ⟨m, hm⟩ := k2; exact DataW.trod_lt m _ _ _ hm
  obtain ⟨z2, l2, cp2, cq2, nz2, rd2, wf2, bj2⟩ := Go.Proofs.YtnoohhpajoaaoaaDoor.O.open_isT Tryd.underlying31 Tryd.underlying3 (by kernel_rfl) h2
  have el2 := Go.Proofs.YtnoohhpajoaaoaaDoor.O.open_el Tryd.underlying31 Tryd.underlying3 (by kernel_rfl) k2
  clear hA0 hval0
  have r1 : z1.length * 8 ≤ 140737488351232 := by
    rcases el1 with h | ⟨es, sp, h, hle⟩
    · omega
    · have hr := sized_slice hsz (j := 1) (t := 31) (e := 3) (elems := es) (spare := sp) rfl (by simp [h]) Tryd.underlying31
      rw [show Tryd.prog.bytesOf 3 = 8 from by kernel_rfl] at hr
      simp only [reachBytes] at hr
      omega
  have r2 : z2.length * 8 ≤ 140737488351232 := by
    rcases el2 with h | ⟨es, sp, h, hle⟩
    · omega
    · have hr := sized_slice hsz (j := 2) (t := 31) (e := 3) (elems := es) (spare := sp) rfl (by simp [h]) Tryd.underlying31
      rw [show Tryd.prog.bytesOf 3 = 8 from by kernel_rfl] at hr
      simp only [reachBytes] at hr
      omega
  have tb := Go.Proofs.YtnoohhpajoaaoaaDoor.E.tab_of_laid hL
  refine (walk a0 a1 n1 c1 z1 a2 n2 c2 z2 W tb w0 l1 ⟨cp1, cq1⟩ nz1 rd1 wf1 r1 l2 ⟨cp2, cq2⟩ nz2 rd2 wf2 r2).mono fun e W' ⟨he, bel⟩ => ?_
  subst he
  exact ⟨_, rfl, _, _, _, [], _, [], hW', trodAll_mk1 (shut_bool Tryd.underlying4 _), (trodAll_cons_mk (shut_int Tryd.underlying3 w0) (trodAll_cons_mk (Below.trod Go.Proofs.YtnoohhpajoaaoaaDoor.O.laidOut (by kernel_rfl) (of_decide_eq_true (by kernel_rfl)) k1 bel lt1) (trodAll_cons_mk (Below.trod Go.Proofs.YtnoohhpajoaaoaaDoor.O.laidOut (by kernel_rfl) (of_decide_eq_true (by kernel_rfl)) k2 bel lt2) trodAll_mk0))), rfl, bel.frame _, fun h => by cases h⟩

theorem said : Rows.JournalFlipsSaid :=
  OpenClaim.holds_of_cond 6 Tryd.f6 rfl rfl rfl rfl rfl rfl rfl ⟨rfl, rfl, rfl, rfl, rfl⟩ rfl rfl rfl rfl rfl (by kernel_rfl) Tryd.func6 (by kernel_rfl)
    (of_decide_eq_true (by kernel_rfl)) (by unfold Func.isWrapper; first | (rw [if_pos (by decide +kernel)]; kernel_rfl) | (rw [if_neg (by decide +kernel)]; exact ⟨rfl, rfl⟩))
    (fun os started H0 enc _ F0 => by rw [OpenClaim.pre_eq_preRow]; exact lifted os started H0 enc F0)
theorem plain (f : FuncId) (fn : Func) (hf : Tryd.pinned.checked.prog.funcNamed "perigee/perigeelaw07.JournalFlips" = some f) (hfn : Tryd.pinned.checked.prog.funcs[f]? = some fn) :
    false = Tryd.pinned.checked.prog.looks [] ∧ ∀ (j : Nat) t, fn.params[j]? = some t → Tryd.pinned.checked.prog.wantsStandIn t = false := by
  obtain rfl : f = 6 := Option.some.inj ((show Tryd.prog.funcNamed "perigee/perigeelaw07.JournalFlips" = some 6 by kernel_rfl).symm.trans hf) |>.symm
  obtain rfl : fn = Tryd.f6 := (Option.some.inj (Tryd.func6.symm.trans hfn)).symm
  refine ⟨by kernel_rfl, fun j t ht => ?_⟩
  rw [Tryd.params6] at ht
  have hm : t ∈ [3, 31, 31] := by simpa using Array.mem_of_getElem? ht
  have hall : ([3, 31, 31].all fun u => !Tryd.prog.wantsStandIn u) = true := by kernel_rfl
  exact (show Tryd.prog.wantsStandIn t = false by simpa using List.all_eq_true.1 hall t hm)
/-- ████ THE CARD ████ -/
theorem proved : Rows.JournalFlipsCardSaid :=
  Claim7.holds_tied_plain_at .later [] _ _ _ _ said (fun _ h => by cases h) (by kernel_rfl) (fun _ h => by cases h) journalFlips_row_tie rfl ⟨rfl, rfl⟩ (by kernel_rfl) rfl plain (by kernel_rfl)
end Go.Proofs.YtnoohhpajoaaoaaDoor.journalFlips
