/-
  For every number of words, list of numbers, word and two bits, JournalDouble returns true: after both bits of the word were flipped, Open returns the records or ErrFlip, and so it does after Replace; and the chapter's examples hold.
-/
import Derived.Test.YtnoohhpajoaaoaaDoorJLives
import Derived.Deep.DeepCutAuto
import Derived.Deep.RegionHeld3
import Derived.Deep.LoopGhost
import Derived.Deep.QuietTactic
namespace Go.Proofs.YtnoohhpajoaaoaaDoor.journalDouble
open Go.ChangeShapes Go.WideShapes Go.ChangeAt Go.RowKit
open Go.ChangeMaps (open_string shut_string)
set_option linter.unusedVariables false

set_option maxRecDepth 100000 in
set_option maxHeartbeats 1000000 in
theorem walk (a0 : Int) (a1 : Option Addr) (n1 c1 : Nat) (z1 : List Int) (a2 : Int) (a3 : Int) (a4 : Int) (w : World) (tb : E.Tab w) (w0 : (Lit.int .i64 a0).wf = true) (l1 : z1.length = n1) (cp1 : n1 ≤ c1 ∧ c1 ≤ maxLen) (nz1 : a1 = none → c1 = 0) (rd1 : H.RdI w w.heap.size .i64 a1 z1) (wf1 : ∀ n ∈ z1, (Lit.int .i64 n).wf = true) (r1 : z1.length * 8 ≤ 140737488351232) (w2 : (Lit.int .i64 a2).wf = true) (w3 : (Lit.int .i64 a3).wf = true) (w4 : (Lit.int .i64 a4).wf = true) :
    Calls Tryd.prog 7 #[.int .i64 a0, .slice a1 n1 c1, .int .i64 a2, .int .i64 a3, .int .i64 a4] w fun e w' => e = .returned (.bool true) ∧ Below w.heap.size w w' := by
  have hq2 := H.i64_range w2
  have hq3 := H.i64_range w3
  have hq4 := H.i64_range w4
  obtain ⟨x, hx, hx39⟩ := H.around_nat a3 (m := 39) (by decide)
  obtain ⟨y, hy, hy39⟩ := H.around_nat a4 (m := 39) (by decide)
  have hx' : H.around a3 39 = (x : Int) := hx
  have hy' : H.around a4 39 = (y : Int) := hy
  have HA3 := Lib.hid (fun W => H.around_any a3 39 hq3.1 hq3.2 (by decide) (by decide) W)
  have HA4 := Lib.hid (fun W => H.around_any a4 39 hq4.1 hq4.2 (by decide) (by decide) W)
  rw [hx'] at HA3
  rw [hy'] at HA4
  have HX39 := Lib.hid (And.intro hx39 hy39)
  have H2R := Lib.hid hq2
  clear hx hy hx' hy' hq2 hq3 hq4 w2 w3 w4 hx39 hy39
  subst l1
  have hq0 := H.i64_range w0
  obtain ⟨n, hn⟩ : ∃ n, J.sizeL a0 = n := ⟨_, rfl⟩
  have hsz := J.sizeL_le a0
  rw [hn] at hsz
  have HSZ := Lib.hid (J.rsize_any a0 hq0.1 hq0.2 w)
  rw [hn] at HSZ
  have HRO := Lib.hid (J.rrows_any (c := c1) n hsz.1 (by omega) rd1 (Nat.le_refl _) (by omega) (fun x hx => H.i64_range (wf1 x hx)) (fun _ => True) (fun _ _ => trivial))
  have hel := J.rowsL_err hsz.1 z1
  have hlt := J.rowsL_lt n z1
  obtain ⟨rows, hrows⟩ : ∃ rows, J.rowsL n z1 = rows := ⟨_, rfl⟩
  rw [hrows] at HRO hel hlt
  have HEL := Lib.hid (And.intro hel hlt)
  have HTB := Lib.hid tb
  have HK := Lib.hid hsz
  have hus := J.errL_small (n := n) (by omega) hel
  have HUS := Lib.hid hus
  have HRL : Hid (rows.length ≤ 1000) := Lib.hid (by have h1 := J.rows_le_used rows; omega)
  clear hn hsz hrows hel hlt tb rd1 wf1 cp1 nz1 r1 w0 hq0 hus 
  go_enter Tryd.func7, Tryd.ntmps7
  go_wp2_with fail
  refine HSZ.out.mono ?_
  rintro r wa ⟨rfl, rfl⟩
  go_wp2_with fail
  refine HRO.out.mono ?_
  rintro r w1 ⟨vr, rfl, hrr, hb1⟩
  have HR1 := Lib.hid (hrr.mono (G' := fun k => k < w1.heap.size) fun k hk _ => hk)
  have HB1 := Lib.hid hb1
  have HT1 := Lib.hid (HTB.out.below HTB.out.pos hb1)
  clear hrr hb1
  go_wp2_with fail
  refine (J.fresh_any n HK.out.1 (by have := HK.out.2; omega) HT1.out HR1.out HEL.out.1 HEL.out.2).mono ?_
  intro r w2 hp
  obtain ⟨bj, bm, vm, m2, s2, FR2, ws2, rfl, hg, hcl, hr, ho, hl, hmut, hb2⟩ := J.FreshPost.good (Below.refl _ w1) hp
  have HMU : Hid (∀ k, k < w1.heap.size → ¬ J.Mut bj bm vm FR2 k) := Lib.hid (fun k hk e => by have := hmut k e; omega)
  have H2G := Lib.hid (And.intro hg (And.intro hr (And.intro ho (And.intro hl hcl))))
  clear hp hg hcl hr ho hl hmut hb2
  go_wp2_with fail
  obtain ⟨wd, hwd, hwn⟩ := H.around_nat a2 (m := n) (by have := HK.out.1; omega)
  have hwd' : H.around a2 (n : Int) = (wd : Int) := hwd
  have HA2 := Lib.hid (fun W => H.around_any a2 (n : Int) H2R.out.1 H2R.out.2 (by have := HK.out.1; omega) (by have := HK.out.2; omega) W)
  rw [hwd'] at HA2
  have HWN := Lib.hid hwn
  have HE12 : Hid (J.errL n [[1, 2]] = 0) := Lib.hid (J.errL_intro (fun r hr => by rw [List.mem_singleton.1 hr]; decide) (by show ((3 : Nat) : Int) ≤ _; have := HK.out.1; omega))
  clear hwd hwd' hwn
  refine (HA2.out _).mono ?_
  rintro r w3 ⟨rfl, rfl⟩
  go_wp2_with fail
  refine (HA3.out _).mono ?_
  rintro r w3 ⟨rfl, rfl⟩
  go_wp2_with fail
  refine (M.pflip_mem H2G.out.1.jj.pj.pm H2G.out.1.jj.ok (wd : Int) (x : Int)).mono ?_
  rintro r w4 ⟨rfl, hp4, hs4⟩
  have HP4 := Lib.hid (And.intro hp4 hs4)
  clear hp4 hs4
  go_wp2_with fail
  refine (HA4.out _).mono ?_
  rintro r w5 ⟨rfl, rfl⟩
  go_wp2_with fail
  refine (M.pflip_mem HP4.out.1 (M.flip_ok H2G.out.1.jj.ok _ _) (wd : Int) (y : Int)).mono ?_
  rintro r w6 ⟨rfl, hp6, hs6⟩
  have HJ6 := Lib.hid (H2G.out.1.twice H2G.out.2.2.2.2 HWN.out HX39.out.1 HX39.out.2 HP4.out.1 HP4.out.2 hp6 hs6)
  have HPW : Hid (((m2.flip (wd : Nat) (x : Nat)).flip (wd : Nat) (y : Nat)).off = false ∧ ((m2.flip (wd : Nat) (x : Nat)).flip (wd : Nat) (y : Nat)).left = 0) := Lib.hid ⟨by rw [M.flip_off, M.flip_off]; exact H2G.out.2.2.1, by rw [M.flip_left, M.flip_left]; exact H2G.out.2.2.2.1⟩
  clear hp6 hs6
  go_wp2_with fail
  refine (J.wopen HJ6.out HT1.out HK.out.1).mono ?_
  rintro r wo ⟨p, e, rfl, hjw, hcase⟩
  have HWO := Lib.hid hjw
  clear hjw
  rcases hcase with rfl | ⟨rfl, bk, sk, FK, rfl, hpj, hrk⟩
  · go_wp2_with fail
    refine (J.wreplace (HWO.out.keep (J.two_allocs wo _ _)) HT1.out HK.out.1 (by decide) HPW.out.1 HPW.out.2 (J.rr_one wo 1 2 (G := fun k => wo.heap.size ≤ k) (fun _ hk => hk)) (fun k hk e => by have := HWO.out.mut_lt k e; omega) (by decide) (by decide) HE12.out).mono ?_
    rintro r w8 ⟨m8, s8, FR8, ws8, rfl, hj8, hr8⟩
    have HJ8 := Lib.hid hj8
    have H8 := Lib.hid hr8
    clear hj8 hr8
    go_wp2_with fail
    refine (J.wopen HJ8.out HT1.out HK.out.1).mono ?_
    rintro r wo ⟨p, e, rfl, hjw, hcase⟩
    have HWO := Lib.hid hjw
    clear hjw
    rcases hcase with rfl | ⟨rfl, bk, sk, FK, rfl, hpj, hrk⟩
    · have HJX := Lib.hid HWO.out.below
      go_wp2_with fail
      refine (J.glives HJX.out HT1.out).mono ?_
      rintro r we ⟨rfl, hb⟩
      have HBE := Lib.hid hb
      clear hb
      go_wp2_with fail
      go_ret
      exact ⟨rfl, HB1.out.trans (HBE.out.mono HB1.out.size)⟩
    · have HUK : Hid (J.usedL sk.rows ≤ 500) := Lib.hid (by rw [hrk, H8.out]; decide)
      have HPR := Lib.hid (J.precords_any hpj (by have := HUK.out; omega) (fun _ => True) (fun _ _ => trivial))
      rw [hrk, H8.out] at HPR
      clear hpj
      go_wp2_with fail
      refine HPR.out.mono ?_
      rintro r wq ⟨vq, rfl, hrr, hbq⟩
      have HRQ := Lib.hid hrr
      have HBQ := Lib.hid (HWO.out.below.trans (hbq.mono HWO.out.below.size))
      clear hrr hbq
      go_wp2_with fail
      refine (J.rsame_any (HRQ.out.keep (J.two_allocs wq _ _)) (J.rr_one wq 1 2 (G := fun _ => True) (fun _ _ => trivial)) (by decide)).mono ?_
      rintro r wz ⟨rfl, q, rfl⟩
      rw [decide_eq_true rfl]
      have HJX := Lib.hid (below_drewN (HBQ.out.trans ((J.two_allocs wq (.cells #[.int .u32 1, .int .u32 2] 30) (.cells #[.slice (some ⟨wq.heap.size, 0, none⟩) 2 2] 35)).mono HBQ.out.size)) q)
      go_wp2_with fail
      refine (J.glives HJX.out HT1.out).mono ?_
      rintro r we ⟨rfl, hb⟩
      have HBE := Lib.hid hb
      clear hb
      go_wp2_with fail
      go_ret
      exact ⟨rfl, HB1.out.trans (HBE.out.mono HB1.out.size)⟩
  · have HUK : Hid (J.usedL sk.rows ≤ 500) := Lib.hid (by rw [hrk, H2G.out.2.1]; exact HUS.out)
    have HPR := Lib.hid (J.precords_any hpj (by have := HUK.out; omega) (fun _ => True) (fun _ _ => trivial))
    rw [hrk, H2G.out.2.1] at HPR
    clear hpj
    go_wp2_with fail
    refine HPR.out.mono ?_
    rintro r wq ⟨vq, rfl, hrr, hbq⟩
    have HRQ := Lib.hid hrr
    have HWQ := Lib.hid (HWO.out.keep hbq)
    clear hrr hbq
    go_wp2_with fail
    refine (J.rsame_any HRQ.out (HR1.out.keep HWQ.out.below) (by have := HUS.out; omega)).mono ?_
    rintro r wz ⟨rfl, q, hwz⟩
    rw [decide_eq_true rfl]
    have HWZ := Lib.hid (show J.JW w1 wz bj bm vm ((m2.flip (wd : Nat) (x : Nat)).flip (wd : Nat) (y : Nat)) s2 FR2 ws2 n 40000 by rw [hwz]; exact HWQ.out.keep (below_drewN (Below.refl _ _) q))
    clear hwz
    go_wp2_with fail
    refine (J.wreplace (HWZ.out.keep (J.two_allocs wz _ _)) HT1.out HK.out.1 (by decide) HPW.out.1 HPW.out.2 (J.rr_one wz 1 2 (G := fun k => wz.heap.size ≤ k) (fun _ hk => hk)) (fun k hk e => by have := HWZ.out.mut_lt k e; omega) (by decide) (by decide) HE12.out).mono ?_
    rintro r w8 ⟨m8, s8, FR8, ws8, rfl, hj8, hr8⟩
    have HJ8 := Lib.hid hj8
    have H8 := Lib.hid hr8
    clear hj8 hr8
    go_wp2_with fail
    refine (J.wopen HJ8.out HT1.out HK.out.1).mono ?_
    rintro r wo ⟨p, e, rfl, hjw, hcase⟩
    have HWO := Lib.hid hjw
    clear hjw
    rcases hcase with rfl | ⟨rfl, bk, sk, FK, rfl, hpj, hrk⟩
    · have HJX := Lib.hid HWO.out.below
      go_wp2_with fail
      refine (J.glives HJX.out HT1.out).mono ?_
      rintro r we ⟨rfl, hb⟩
      have HBE := Lib.hid hb
      clear hb
      go_wp2_with fail
      go_ret
      exact ⟨rfl, HB1.out.trans (HBE.out.mono HB1.out.size)⟩
    · have HUK : Hid (J.usedL sk.rows ≤ 500) := Lib.hid (by rw [hrk, H8.out]; decide)
      have HPR := Lib.hid (J.precords_any hpj (by have := HUK.out; omega) (fun _ => True) (fun _ _ => trivial))
      rw [hrk, H8.out] at HPR
      clear hpj
      go_wp2_with fail
      refine HPR.out.mono ?_
      rintro r wq ⟨vq, rfl, hrr, hbq⟩
      have HRQ := Lib.hid hrr
      have HBQ := Lib.hid (HWO.out.below.trans (hbq.mono HWO.out.below.size))
      clear hrr hbq
      go_wp2_with fail
      refine (J.rsame_any (HRQ.out.keep (J.two_allocs wq _ _)) (J.rr_one wq 1 2 (G := fun _ => True) (fun _ _ => trivial)) (by decide)).mono ?_
      rintro r wz ⟨rfl, q, rfl⟩
      rw [decide_eq_true rfl]
      have HJX := Lib.hid (below_drewN (HBQ.out.trans ((J.two_allocs wq (.cells #[.int .u32 1, .int .u32 2] 30) (.cells #[.slice (some ⟨wq.heap.size, 0, none⟩) 2 2] 35)).mono HBQ.out.size)) q)
      go_wp2_with fail
      refine (J.glives HJX.out HT1.out).mono ?_
      rintro r we ⟨rfl, hb⟩
      have HBE := Lib.hid hb
      clear hb
      go_wp2_with fail
      go_ret
      exact ⟨rfl, HB1.out.trans (HBE.out.mono HB1.out.size)⟩

theorem reads (os : Os) {H0 : Type} (enc : TypeId × Value → H0) : ∃ places, DataW.whole enc Tryd.prog ((Go.Proofs.YtnoohhpajoaaoaaDoor.E.laidWorld os).forCall (fun _ _ => 0) ⟨#[], #[.int .i64 0, .slice none 0 0, .int .i64 0, .int .i64 0, .int .i64 0], []⟩).memory Tryd.f7.params.toList Rows.journalDoubleSpec.vars false (#[.int .i64 0, .slice none 0 0, .int .i64 0, .int .i64 0, .int .i64 0] : Array Value).toList 8 = some ([.lit (.int .i64 0), .nil, .lit (.int .i64 0), .lit (.int .i64 0), .lit (.int .i64 0)], [], places) :=
  ⟨[], by kernel_rfl⟩
set_option maxRecDepth 100000 in
theorem lifted (os : Os) (started : os.Started) (H0 : Type) (enc : TypeId × Value → H0) (F0 : Stop.Interp) :
    ReturnsInHanded {} Tryd.checked os 7 .any ((OpenSpec.ofChange Rows.journalDoubleSpec).preRow enc Tryd.prog Tryd.f7 Rows.journalDoubleRow.domain false Rows.journalDoubleRow.laid) (((OpenSpec.ofChange Rows.journalDoubleSpec).at F0).post enc Tryd.prog Tryd.f7 false true false false) := by
  obtain ⟨places, hx⟩ := reads os enc
  refine returnsInHanded_of_row (C := Tryd.checked) (s := (OpenSpec.ofChange Rows.journalDoubleSpec)) Go.Proofs.YtnoohhpajoaaoaaDoor.O.own started (by kernel_rfl) Tryd.func7
    (witness_row_at (enc := enc) (C := Tryd.checked) false (Go.Proofs.YtnoohhpajoaaoaaDoor.E.laidWorld os) #[.int .i64 0, .slice none 0 0, .int .i64 0, .int .i64 0, .int .i64 0] rfl (by kernel_rfl) (by kernel_rfl) (by kernel_rfl)
      (OpenSpec.preRow_of_cond 8 hx (by kernel_rfl) (fun k hk => by cases hk) (by kernel_rfl) (Go.Proofs.YtnoohhpajoaaoaaDoor.E.laid_met os _))) ?_
  intro W base args ds gs before hval0 hW _ hk0 hsz0 hL _ _
  have hsz : (DataW.weightsEach Tryd.prog (Tryd.f7.params.toList ++ (OpenSpec.ofChange Rows.journalDoubleSpec).bare.plain.varTypes Tryd.prog) (ds ++ gs)).all (· ≤ reachBytes) = true := hsz0
  clear hsz0
  have hval : ∀ (j : Nat) t v, Tryd.f7.params[j]? = some t → args[j]? = some v → Value.okWide Tryd.prog W .any base t v := hval0
  have hW' := hW
  obtain ⟨p, q, hA0, hV, rfl, hfz, hnd⟩ := hW
  have hA : DataW.TrodAll enc Tryd.prog W 0 (fun _ => true) true Tryd.f7.params.toList args.toList ds p := hA0
  rw [Tryd.params7] at hA hval hsz
  obtain ⟨v0, vs0, d0, ds0, p0, q0, hargs, rfl, rfl, h0, r0⟩ := trodAll_cons hA
  obtain ⟨v1, vs1, d1, ds1, p1, q1, rfl, rfl, rfl, h1, r1⟩ := trodAll_cons r0
  obtain ⟨v2, vs2, d2, ds2, p2, q2, rfl, rfl, rfl, h2, r2⟩ := trodAll_cons r1
  obtain ⟨v3, vs3, d3, ds3, p3, q3, rfl, rfl, rfl, h3, r3⟩ := trodAll_cons r2
  obtain ⟨v4, vs4, d4, ds4, p4, q4, rfl, rfl, rfl, h4, r4⟩ := trodAll_cons r3
  obtain ⟨rfl, rfl, rfl⟩ := trodAll_nil r4
  obtain rfl : args = #[v0, v1, v2, v3, v4] := by cases args; simp_all
  obtain ⟨rfl, rfl⟩ := trodVars_none hV
  obtain ⟨a0, rfl, rfl, rfl, w0⟩ := open_int Tryd.underlying3 (hval 0 3 v0 rfl rfl) h0
  obtain ⟨a1, n1, c1, rfl⟩ := okWide_slice Tryd.underlying31 (hval 1 31 v1 rfl rfl)
  have k1 := h1
  have lt1 : ∀ x ∈ p1, x.block < W.heap.size := by obtain ⟨m, hm⟩ := k1; exact DataW.trod_lt m _ _ _ hm
  obtain ⟨z1, l1, cp1, cq1, nz1, rd1, wf1, bj1⟩ := Go.Proofs.YtnoohhpajoaaoaaDoor.O.open_isT Tryd.underlying31 Tryd.underlying3 (by kernel_rfl) h1
  have el1 := Go.Proofs.YtnoohhpajoaaoaaDoor.O.open_el Tryd.underlying31 Tryd.underlying3 (by kernel_rfl) k1
  obtain ⟨a2, rfl, rfl, rfl, w2⟩ := open_int Tryd.underlying3 (hval 2 3 v2 rfl rfl) h2
  obtain ⟨a3, rfl, rfl, rfl, w3⟩ := open_int Tryd.underlying3 (hval 3 3 v3 rfl rfl) h3
  obtain ⟨a4, rfl, rfl, rfl, w4⟩ := open_int Tryd.underlying3 (hval 4 3 v4 rfl rfl) h4
  clear hA0 hval0
  have r1 : z1.length * 8 ≤ 140737488351232 := by
    rcases el1 with h | ⟨es, sp, h, hle⟩
    · omega
    · have hr := sized_slice hsz (j := 1) (t := 31) (e := 3) (elems := es) (spare := sp) rfl (by simp [h]) Tryd.underlying31
      rw [show Tryd.prog.bytesOf 3 = 8 from by kernel_rfl] at hr
      simp only [reachBytes] at hr
      omega
  have tb := Go.Proofs.YtnoohhpajoaaoaaDoor.E.tab_of_laid hL
  refine (walk a0 a1 n1 c1 z1 a2 a3 a4 W tb w0 l1 ⟨cp1, cq1⟩ nz1 rd1 wf1 r1 w2 w3 w4).mono fun e W' ⟨he, bel⟩ => ?_
  subst he
  exact ⟨_, rfl, _, _, _, [], _, [], hW', trodAll_mk1 (shut_bool Tryd.underlying4 _), (trodAll_cons_mk (shut_int Tryd.underlying3 w0) (trodAll_cons_mk (Below.trod Go.Proofs.YtnoohhpajoaaoaaDoor.O.laidOut (by kernel_rfl) (of_decide_eq_true (by kernel_rfl)) k1 bel lt1) (trodAll_cons_mk (shut_int Tryd.underlying3 w2) (trodAll_cons_mk (shut_int Tryd.underlying3 w3) (trodAll_cons_mk (shut_int Tryd.underlying3 w4) trodAll_mk0))))), rfl, bel.frame _, fun h => by cases h⟩

theorem said : Rows.JournalDoubleSaid :=
  OpenClaim.holds_of_cond 7 Tryd.f7 rfl rfl rfl rfl rfl rfl rfl ⟨rfl, rfl, rfl, rfl, rfl⟩ rfl rfl rfl rfl rfl (by kernel_rfl) Tryd.func7 (by kernel_rfl)
    (of_decide_eq_true (by kernel_rfl)) (by unfold Func.isWrapper; first | (rw [if_pos (by decide +kernel)]; kernel_rfl) | (rw [if_neg (by decide +kernel)]; exact ⟨rfl, rfl⟩))
    (fun os started H0 enc _ F0 => by rw [OpenClaim.pre_eq_preRow]; exact lifted os started H0 enc F0)
theorem plain (f : FuncId) (fn : Func) (hf : Tryd.pinned.checked.prog.funcNamed "perigee/perigeelaw07.JournalDouble" = some f) (hfn : Tryd.pinned.checked.prog.funcs[f]? = some fn) :
    false = Tryd.pinned.checked.prog.looks [] ∧ ∀ (j : Nat) t, fn.params[j]? = some t → Tryd.pinned.checked.prog.wantsStandIn t = false := by
  obtain rfl : f = 7 := Option.some.inj ((show Tryd.prog.funcNamed "perigee/perigeelaw07.JournalDouble" = some 7 by kernel_rfl).symm.trans hf) |>.symm
  obtain rfl : fn = Tryd.f7 := (Option.some.inj (Tryd.func7.symm.trans hfn)).symm
  refine ⟨by kernel_rfl, fun j t ht => ?_⟩
  rw [Tryd.params7] at ht
  have hm : t ∈ [3, 31, 3, 3, 3] := by simpa using Array.mem_of_getElem? ht
  have hall : ([3, 31, 3, 3, 3].all fun u => !Tryd.prog.wantsStandIn u) = true := by kernel_rfl
  exact (show Tryd.prog.wantsStandIn t = false by simpa using List.all_eq_true.1 hall t hm)
/-- ████ THE CARD ████ -/
theorem proved : Rows.JournalDoubleCardSaid :=
  Claim7.holds_tied_plain_at .later [] _ _ _ _ said (fun _ h => by cases h) (by kernel_rfl) (fun _ h => by cases h) journalDouble_row_tie rfl ⟨rfl, rfl⟩ (by kernel_rfl) rfl plain (by kernel_rfl)
end Go.Proofs.YtnoohhpajoaaoaaDoor.journalDouble
