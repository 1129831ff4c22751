/-
  For every number of words and list of numbers, JournalAppends returns true: appending the records one after the other, and replacing all by them, lead to the same journal; and the chapter's examples hold.
-/
import Derived.Test.YtnoohhpajoaaoaaDoorJLives
import Derived.Deep.DeepCutAuto
import Derived.Deep.RegionHeld3
import Derived.Deep.LoopGhost
import Derived.Deep.QuietTactic
namespace Go.Proofs.YtnoohhpajoaaoaaDoor.journalAppends
open Go.ChangeShapes Go.WideShapes Go.ChangeAt Go.RowKit
open Go.ChangeMaps (open_string shut_string)
set_option linter.unusedVariables false

set_option maxRecDepth 100000 in
set_option maxHeartbeats 1000000 in
theorem walk (a0 : Int) (a1 : Option Addr) (n1 c1 : Nat) (z1 : List Int) (w : World) (tb : E.Tab w) (w0 : (Lit.int .i64 a0).wf = true) (l1 : z1.length = n1) (cp1 : n1 ≤ c1 ∧ c1 ≤ maxLen) (nz1 : a1 = none → c1 = 0) (rd1 : H.RdI w w.heap.size .i64 a1 z1) (wf1 : ∀ n ∈ z1, (Lit.int .i64 n).wf = true) (r1 : z1.length * 8 ≤ 140737488351232) :
    Calls Tryd.prog 10 #[.int .i64 a0, .slice a1 n1 c1] w fun e w' => e = .returned (.bool true) ∧ Below w.heap.size w w' := by
  subst l1
  have hq0 := H.i64_range w0
  obtain ⟨n, hn⟩ : ∃ n, J.sizeL a0 = n := ⟨_, rfl⟩
  have hsz := J.sizeL_le a0
  rw [hn] at hsz
  have HSZ := Lib.hid (J.rsize_any a0 hq0.1 hq0.2 w)
  rw [hn] at HSZ
  have HRO := Lib.hid (J.rrows_any (c := c1) n hsz.1 (by omega) rd1 (Nat.le_refl _) (by omega) (fun x hx => H.i64_range (wf1 x hx)) (fun _ => True) (fun _ _ => trivial))
  have hel := J.rowsL_err hsz.1 z1
  have hlt := J.rowsL_lt n z1
  obtain ⟨rows, hrows⟩ : ∃ rows, J.rowsL n z1 = rows := ⟨_, rfl⟩
  rw [hrows] at HRO hel hlt
  have HEL := Lib.hid (And.intro hel hlt)
  have HTB := Lib.hid tb
  have HK := Lib.hid hsz
  have hus := J.errL_small (n := n) (by omega) hel
  have HUS := Lib.hid hus
  have HRL : Hid (rows.length ≤ 1000) := Lib.hid (by have h1 := J.rows_le_used rows; omega)
  have HR10 : Hid (rows.length ≤ 10) := Lib.hid (by rw [← hrows]; exact J.rowsL_len n z1)
  clear hn hsz hrows hel hlt tb rd1 wf1 cp1 nz1 r1 w0 hq0 hus 
  go_enter Tryd.func10, Tryd.ntmps10
  go_wp2_with fail
  refine HSZ.out.mono ?_
  rintro r wa ⟨rfl, rfl⟩
  go_wp2_with fail
  refine HRO.out.mono ?_
  rintro r w1 ⟨vr, rfl, hrr, hb1⟩
  have HR1 := Lib.hid (hrr.mono (G' := fun k => k < w1.heap.size) fun k hk _ => hk)
  have HB1 := Lib.hid hb1
  have HT1 := Lib.hid (HTB.out.below HTB.out.pos hb1)
  clear hrr hb1
  go_wp2_with fail
  refine (J.fresh_any n HK.out.1 (by have := HK.out.2; omega) HT1.out (G := fun _ => True) R.RR.nil (J.errL_take HEL.out.1 0) (fun r hr => by simp at hr)).mono ?_
  intro r w2 hp
  obtain ⟨bj, bm, vm, m2, s2, FR2, ws2, rfl, hg, hcl, hr, ho, hl, hmut, hb2⟩ := J.FreshPost.good (Below.refl _ w1) hp
  have H2G := Lib.hid (And.intro hg (And.intro hr (And.intro ho hl)))
  obtain ⟨AR, cR, hvr⟩ := HR1.out.shape
  subst hvr
  clear hp hg hcl hr ho hl hmut hb2
  go_wp2_with fail
  go_loopg [9] rows.length (fun g i wr => ∃ (k : Nat) (m : M.Mem) (s : J.JS) (FR : Nat → Prop) (ws : Nat → Nat), k + g = rows.length ∧ i = .int .i64 (k : Nat) ∧ J.JG w1 wr bj bm vm m s FR ws n (40000 + 20000 * k) ∧ s.rows = rows.take k ∧ m.off = false ∧ m.left = 0)
  case atStart => exact ⟨0, m2, s2, FR2, ws2, Nat.zero_add _, rfl, H2G.out.1, H2G.out.2.1, H2G.out.2.2.1, H2G.out.2.2.2⟩
  case round =>
    obtain ⟨k, m, s, FR, ws, hg, rfl, hj, hr, ho, hl⟩ := hrel
    have HGG := Lib.hid hg
    have HJ := Lib.hid (And.intro hj (And.intro hr (And.intro ho hl)))
    have hn9 : n ≤ 1000 := by have := HK.out.2; omega
    have hk10 : k ≤ 10 := by have := HR10.out; omega
    have hlen10 : rows.length ≤ 10 := HR10.out
    clear hg hj hr ho hl
    by_cases hlt : k < rows.length
    · have hki : (k : Int) < (rows.length : Int) := by omega
      obtain ⟨xs, hxs⟩ : ∃ xs, rows[k]? = some xs := ⟨_, List.getElem?_eq_getElem hlt⟩
      obtain ⟨ad, XB, xd, rfl, hc, hrd⟩ := (HR1.out.keep HJ.out.1.below).get hxs
      have hcd : wr.drew.cell? (ad.add k) = some (.slice XB xs.length xd) := hc
      have HCB := Lib.hid (R.block_lt hc)
      have hxl := J.len_le_used hxs
      have HXT := Lib.hid (fun x hx => HEL.out.2 xs (List.mem_of_getElem? hxs) x hx)
      have hap := J.gappend (HJ.out.1.keep (Below.refl _ _).drew) HT1.out HK.out.1 (by omega) HJ.out.2.2.1 HJ.out.2.2.2 (R.Sl.keep hrd (Below.refl _ _).drew) (fun j hj e => by have := HJ.out.1.mut_ge j e; omega) (by have := HUS.out; omega) HXT.out
      rw [HJ.out.2.1, J.take_snoc hxs] at hap
      have HE0 := Lib.hid (J.errL_take HEL.out.1 (k + 1))
      have hhi : (ad.add k).block < w1.heap.size := by
        obtain ⟨us, h1, h2, _, _⟩ := HR1.out
        obtain ⟨_, hg2⟩ := R.Sl.get h1
        obtain ⟨ad', e, hgb, _⟩ := hg2 k _ (List.getElem?_eq_getElem (by omega))
        injection e with e
        subst e
        rw [H.add_block]
        exact hgb
      have HAP := Lib.hid (hap.mono (R' := fun r w' => ∃ m' s' FR' ws', r = .returned (.int .i64 0) ∧ J.JG w1 w' bj bm vm m' s' FR' ws' n (40000 + 20000 * (k + 1)) ∧ s'.rows = rows.take (k + 1) ∧ m'.off = false ∧ m'.left = 0 ∧ w'.cell? (ad.add k) = some (.slice XB xs.length xd)) (fun r w' ⟨m', s', FR', ws', h1, h2, h3, h4, h5, h6⟩ => by
        rw [HE0.out] at h1
        rw [HE0.out, if_pos rfl] at h3
        exact ⟨m', s', FR', ws', h1, { h2 with cnt := by have := h2.cnt; omega }, h3, h4, h5, (R.cell_same (h6.1.block _ HCB.out (fun e => by have := HJ.out.1.mut_ge _ e; omega))).trans hcd⟩))
      have HCB1 := Lib.hid hhi
      have hsl : rows.length ≤ cR := HR1.out.cap
      have hk1 : (k : Int) + 1 ≤ (cR : Int) := by omega
      have hk2 : ¬ (cR : Int) < (k : Int) + 1 := by omega
      have hkw : IntKind.i64.wrap ((k : Int) + 1) = (k : Int) + 1 := by rw [IntKind.wrap_i64]; omega
      have hk3 : (0 : Int) ≤ (k : Int) + 1 := by omega
      have hk4 : ¬ (k : Int) + 1 < 0 := by omega
      have hk5 : ¬ cR = 0 := by omega
      have hk6 : ¬ (0 : Int) = (cR : Int) := by omega
      have hk7 : ¬ (k : Int) + 1 = 0 := by omega
      have hk8 : ((k : Int) + 1).toNat = k + 1 := by omega
      clear hrd hxs hxl hap hhi
      go_wp2_with fail
      go_region_held3 (fun W => W.cell? (ad.add k) = some (.slice XB xs.length xd)) (with_reducible assumption)
        ((first
          | (go_at_call 17; refine HAP.out.mono ?_; rintro r w7 ⟨m7, s7, FR7, ws7, rfl, hg7, hr7, ho7, hl7, hc7⟩)
          | (go_at_call 27; refine (J.grecords hg7 hn9).mono ?_; rintro r w8 ⟨v8, rfl, hrr8, hb8⟩; have hc8 : w8.cell? (ad.add k) = some (.slice XB xs.length xd) := (hb8.cell (R.block_lt hc7)).trans hc7)
          | (go_at_call 26; refine (J.rsame_any hrr8 (J.RR_take (HR1.out.keep (hg7.below.trans (hb8.mono hg7.below.size))) (show k + 1 ≤ rows.length from hlt)) (by rw [hr7]; have h1 := J.usedL_take_le rows (k + 1); have h2 := HUS.out; omega)).mono ?_; rintro r w9 ⟨hr9, q, rfl⟩; rw [hr7, decide_eq_true rfl] at hr9; subst hr9; have hc9 : (w8.drewN q).cell? (ad.add k) = some (.slice XB xs.length xd) := hc8)))
      have H9 := Lib.hid (And.intro ((hg7.keep hb8).drewN q) (And.intro hr7 (And.intro ho7 hl7)))
      clear hg7 hr7 ho7 hl7 hc7 hrr8 hb8 hc8 hc9 hc hcd hk1 hk2 hk3 hk4 hk5 hk6 hk7 hk8 hsl
      go_wp2_with fail
      go_roundg (gk - 1)
      case measure => have := HGG.out; omega
      case rel => exact ⟨k + 1, m7, s7, FR7, ws7, by have := HGG.out; omega, by go_num, H9.out.1, H9.out.2.1, H9.out.2.2.1, H9.out.2.2.2⟩
    · have hki : ¬ (k : Int) < (rows.length : Int) := by omega
      have hkr : k = rows.length := by have := HGG.out; omega
      have HRS : Hid (s.rows = rows) := Lib.hid (by rw [HJ.out.2.1, hkr, List.take_length])
      clear hlt hkr
      go_wp2_with fail
      refine (J.fresh_any n HK.out.1 hn9 (HJ.out.1.tab HT1.out) (HR1.out.keep HJ.out.1.below) HEL.out.1 HEL.out.2).mono ?_
      intro r w4 hp
      obtain ⟨bk, bn, vn, m4, s4, FR4, ws4, rfl, hg4, _, hr4, _, _, _, hb4⟩ := J.FreshPost.good HJ.out.1.below hp
      have H4 := Lib.hid (And.intro hg4 hr4)
      have HJ4 := Lib.hid (HJ.out.1.keep hb4)
      clear hp hg4 hr4 hb4
      have hf := J.gfree HJ4.out hn9
      rw [HRS.out] at hf
      have HF := Lib.hid hf
      clear hf
      go_wp2_with fail
      refine HF.out.mono ?_
      rintro r w5 ⟨rfl, q5, hw5⟩
      have H5 := Lib.hid (show J.JG w1 w5 bk bn vn m4 s4 FR4 ws4 n 40000 by rw [hw5]; exact H4.out.1.drewN q5)
      have HJ5 := Lib.hid (show J.JG w1 w5 bj bm vm m s FR ws n (40000 + 20000 * k) by rw [hw5]; exact HJ4.out.drewN q5)
      have hf := J.gfree H5.out hn9
      rw [H4.out.2] at hf
      have HF5 := Lib.hid hf
      clear hw5 hf
      generalize J.freeL n rows = fr at *
      go_wp2_with fail
      refine HF5.out.mono ?_
      rintro r w6 ⟨rfl, q6, hw6⟩
      have H6 := Lib.hid (show J.JG w1 w6 bk bn vn m4 s4 FR4 ws4 n 40000 by rw [hw6]; exact H5.out.drewN q6)
      have HJ6 := Lib.hid (show J.JG w1 w6 bj bm vm m s FR ws n (40000 + 20000 * k) by rw [hw6]; exact HJ5.out.drewN q6)
      clear hw6
      go_wp2_with fail
      refine (J.grecords HJ6.out hn9).mono ?_
      rintro r w7 ⟨v7, rfl, hrr, hb7⟩
      have HR7 := Lib.hid hrr
      have H7 := Lib.hid (H6.out.keep hb7)
      have HJ7 := Lib.hid (HJ6.out.keep hb7)
      clear hrr hb7
      go_wp2_with fail
      refine (J.grecords H7.out hn9).mono ?_
      rintro r w8 ⟨v8, rfl, hrr, hb8⟩
      have HR8 := Lib.hid hrr
      have HR78 := Lib.hid (HR7.out.keep hb8)
      have H8 := Lib.hid (H7.out.keep hb8)
      have HJ8 := Lib.hid (HJ7.out.keep hb8)
      clear hrr hb8
      go_wp2_with fail
      refine (J.rsame_any HR78.out HR8.out (by rw [HRS.out]; have := HUS.out; omega)).mono ?_
      rintro r w9 ⟨rfl, q9, hw9⟩
      rw [HRS.out, H4.out.2, decide_eq_true rfl]
      have H9 := Lib.hid (show J.JG w1 w9 bk bn vn m4 s4 FR4 ws4 n 40000 by rw [hw9]; exact H8.out.drewN q9)
      have HJ9 := Lib.hid (show J.JG w1 w9 bj bm vm m s FR ws n (40000 + 20000 * k) by rw [hw9]; exact HJ8.out.drewN q9)
      clear hw9
      go_wp2_with fail
      refine (J.gopens HJ9.out HT1.out HK.out.1 hn9 (HR1.out.keep HJ9.out.below)).mono ?_
      rintro r w10 ⟨rfl, hb10⟩
      rw [HRS.out, decide_eq_true rfl]
      have H10 := Lib.hid (H9.out.keep hb10)
      clear hb10
      go_wp2_with fail
      refine (J.gopens H10.out HT1.out HK.out.1 hn9 (HR1.out.keep H10.out.below)).mono ?_
      rintro r w11 ⟨rfl, hb11⟩
      rw [H4.out.2, decide_eq_true rfl]
      have HB11 := Lib.hid (H10.out.keep hb11).below
      clear hb11
      go_wp2_with fail
      refine (J.glives HB11.out HT1.out).mono ?_
      rintro r w12 ⟨rfl, hb⟩
      have HBE := Lib.hid hb
      clear hb
      go_wp2_with fail
      go_ret
      exact ⟨rfl, HB1.out.trans (HBE.out.mono HB1.out.size)⟩

theorem reads (os : Os) {H0 : Type} (enc : TypeId × Value → H0) : ∃ places, DataW.whole enc Tryd.prog ((Go.Proofs.YtnoohhpajoaaoaaDoor.E.laidWorld os).forCall (fun _ _ => 0) ⟨#[], #[.int .i64 0, .slice none 0 0], []⟩).memory Tryd.f10.params.toList Rows.journalAppendsSpec.vars false (#[.int .i64 0, .slice none 0 0] : Array Value).toList 8 = some ([.lit (.int .i64 0), .nil], [], places) :=
  ⟨[], by kernel_rfl⟩
set_option maxRecDepth 100000 in
theorem lifted (os : Os) (started : os.Started) (H0 : Type) (enc : TypeId × Value → H0) (F0 : Stop.Interp) :
    ReturnsInHanded {} Tryd.checked os 10 .any ((OpenSpec.ofChange Rows.journalAppendsSpec).preRow enc Tryd.prog Tryd.f10 Rows.journalAppendsRow.domain false Rows.journalAppendsRow.laid) (((OpenSpec.ofChange Rows.journalAppendsSpec).at F0).post enc Tryd.prog Tryd.f10 false true false false) := by
  obtain ⟨places, hx⟩ := reads os enc
  refine returnsInHanded_of_row (C := Tryd.checked) (s := (OpenSpec.ofChange Rows.journalAppendsSpec)) Go.Proofs.YtnoohhpajoaaoaaDoor.O.own started (by kernel_rfl) Tryd.func10
    (witness_row_at (enc := enc) (C := Tryd.checked) false (Go.Proofs.YtnoohhpajoaaoaaDoor.E.laidWorld os) #[.int .i64 0, .slice none 0 0] rfl (by kernel_rfl) (by kernel_rfl) (by kernel_rfl)
      (OpenSpec.preRow_of_cond 8 hx (by kernel_rfl) (fun k hk => by cases hk) (by kernel_rfl) (Go.Proofs.YtnoohhpajoaaoaaDoor.E.laid_met os _))) ?_
  intro W base args ds gs before hval0 hW _ hk0 hsz0 hL _ _
  have hsz : (DataW.weightsEach Tryd.prog (Tryd.f10.params.toList ++ (OpenSpec.ofChange Rows.journalAppendsSpec).bare.plain.varTypes Tryd.prog) (ds ++ gs)).all (· ≤ reachBytes) = true := hsz0
  clear hsz0
  have hval : ∀ (j : Nat) t v, Tryd.f10.params[j]? = some t → args[j]? = some v → Value.okWide Tryd.prog W .any base t v := hval0
  have hW' := hW
  obtain ⟨p, q, hA0, hV, rfl, hfz, hnd⟩ := hW
  have hA : DataW.TrodAll enc Tryd.prog W 0 (fun _ => true) true Tryd.f10.params.toList args.toList ds p := hA0
  rw [Tryd.params10] at hA hval hsz
  obtain ⟨v0, vs0, d0, ds0, p0, q0, hargs, rfl, rfl, h0, r0⟩ := trodAll_cons hA
  obtain ⟨v1, vs1, d1, ds1, p1, q1, rfl, rfl, rfl, h1, r1⟩ := trodAll_cons r0
  obtain ⟨rfl, rfl, rfl⟩ := trodAll_nil r1
  obtain rfl : args = #[v0, v1] := by cases args; simp_all
  obtain ⟨rfl, rfl⟩ := trodVars_none hV
  obtain ⟨a0, rfl, rfl, rfl, w0⟩ := open_int Tryd.underlying3 (hval 0 3 v0 rfl rfl) h0
  obtain ⟨a1, n1, c1, rfl⟩ := okWide_slice Tryd.underlying31 (hval 1 31 v1 rfl rfl)
  have k1 := h1
  have lt1 : ∀ x ∈ p1, x.block < W.heap.size := by obtain ⟨m, hm⟩ := k1; exact DataW.trod_lt m _ _ _ hm
  obtain ⟨z1, l1, cp1, cq1, nz1, rd1, wf1, bj1⟩ := Go.Proofs.YtnoohhpajoaaoaaDoor.O.open_isT Tryd.underlying31 Tryd.underlying3 (by kernel_rfl) h1
  have el1 := Go.Proofs.YtnoohhpajoaaoaaDoor.O.open_el Tryd.underlying31 Tryd.underlying3 (by kernel_rfl) k1
  clear hA0 hval0
  have r1 : z1.length * 8 ≤ 140737488351232 := by
    rcases el1 with h | ⟨es, sp, h, hle⟩
    · omega
    · have hr := sized_slice hsz (j := 1) (t := 31) (e := 3) (elems := es) (spare := sp) rfl (by simp [h]) Tryd.underlying31
      rw [show Tryd.prog.bytesOf 3 = 8 from by kernel_rfl] at hr
      simp only [reachBytes] at hr
      omega
  have tb := Go.Proofs.YtnoohhpajoaaoaaDoor.E.tab_of_laid hL
  refine (walk a0 a1 n1 c1 z1 W tb w0 l1 ⟨cp1, cq1⟩ nz1 rd1 wf1 r1).mono fun e W' ⟨he, bel⟩ => ?_
  subst he
  exact ⟨_, rfl, _, _, _, [], _, [], hW', trodAll_mk1 (shut_bool Tryd.underlying4 _), (trodAll_cons_mk (shut_int Tryd.underlying3 w0) (trodAll_cons_mk (Below.trod Go.Proofs.YtnoohhpajoaaoaaDoor.O.laidOut (by kernel_rfl) (of_decide_eq_true (by kernel_rfl)) k1 bel lt1) trodAll_mk0)), rfl, bel.frame _, fun h => by cases h⟩

theorem said : Rows.JournalAppendsSaid :=
  OpenClaim.holds_of_cond 10 Tryd.f10 rfl rfl rfl rfl rfl rfl rfl ⟨rfl, rfl, rfl, rfl, rfl⟩ rfl rfl rfl rfl rfl (by kernel_rfl) Tryd.func10 (by kernel_rfl)
    (of_decide_eq_true (by kernel_rfl)) (by unfold Func.isWrapper; first | (rw [if_pos (by decide +kernel)]; kernel_rfl) | (rw [if_neg (by decide +kernel)]; exact ⟨rfl, rfl⟩))
    (fun os started H0 enc _ F0 => by rw [OpenClaim.pre_eq_preRow]; exact lifted os started H0 enc F0)
theorem plain (f : FuncId) (fn : Func) (hf : Tryd.pinned.checked.prog.funcNamed "perigee/perigeelaw07.JournalAppends" = some f) (hfn : Tryd.pinned.checked.prog.funcs[f]? = some fn) :
    false = Tryd.pinned.checked.prog.looks [] ∧ ∀ (j : Nat) t, fn.params[j]? = some t → Tryd.pinned.checked.prog.wantsStandIn t = false := by
  obtain rfl : f = 10 := Option.some.inj ((show Tryd.prog.funcNamed "perigee/perigeelaw07.JournalAppends" = some 10 by kernel_rfl).symm.trans hf) |>.symm
  obtain rfl : fn = Tryd.f10 := (Option.some.inj (Tryd.func10.symm.trans hfn)).symm
  refine ⟨by kernel_rfl, fun j t ht => ?_⟩
  rw [Tryd.params10] at ht
  have hm : t ∈ [3, 31] := by simpa using Array.mem_of_getElem? ht
  have hall : ([3, 31].all fun u => !Tryd.prog.wantsStandIn u) = true := by kernel_rfl
  exact (show Tryd.prog.wantsStandIn t = false by simpa using List.all_eq_true.1 hall t hm)
/-- ████ THE CARD ████ -/
theorem proved : Rows.JournalAppendsCardSaid :=
  Claim7.holds_tied_plain_at .later [] _ _ _ _ said (fun _ h => by cases h) (by kernel_rfl) (fun _ h => by cases h) journalAppends_row_tie rfl ⟨rfl, rfl⟩ (by kernel_rfl) rfl plain (by kernel_rfl)
end Go.Proofs.YtnoohhpajoaaoaaDoor.journalAppends
