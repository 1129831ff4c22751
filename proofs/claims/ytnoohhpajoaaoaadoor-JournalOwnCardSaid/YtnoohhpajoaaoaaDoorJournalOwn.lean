/-
  For every number of words and list of numbers, JournalOwn returns true: changing the records that were handed in, or those that were handed back, changes nothing in the journal; and the chapter's examples hold.
-/
import Derived.Test.YtnoohhpajoaaoaaDoorJLives
import Derived.Deep.DeepCutAuto
import Derived.Deep.RegionHeld3
import Derived.Deep.LoopGhost
import Derived.Deep.QuietTactic
namespace Go.Proofs.YtnoohhpajoaaoaaDoor.journalOwn
open Go.ChangeShapes Go.WideShapes Go.ChangeAt Go.RowKit
open Go.ChangeMaps (open_string shut_string)
set_option linter.unusedVariables false

set_option maxRecDepth 100000 in
set_option maxHeartbeats 1000000 in
theorem walk (a0 : Int) (a1 : Option Addr) (n1 c1 : Nat) (z1 : List Int) (w : World) (tb : E.Tab w) (w0 : (Lit.int .i64 a0).wf = true) (l1 : z1.length = n1) (cp1 : n1 ≤ c1 ∧ c1 ≤ maxLen) (nz1 : a1 = none → c1 = 0) (rd1 : H.RdI w w.heap.size .i64 a1 z1) (wf1 : ∀ n ∈ z1, (Lit.int .i64 n).wf = true) (r1 : z1.length * 8 ≤ 140737488351232) :
    Calls Tryd.prog 9 #[.int .i64 a0, .slice a1 n1 c1] w fun e w' => e = .returned (.bool true) ∧ Below w.heap.size w w' := by
  have hro2 := fun (n : Nat) (h16 : 16 ≤ n) (hn : n ≤ 1000) (W : World) (hW : Below w.heap.size w W) => J.rrows_any (c := c1) n h16 hn (rd1.below hW) hW.size (by omega) (fun x hx => H.i64_range (wf1 x hx)) (fun k => W.heap.size ≤ k) (fun _ hk => hk)
  have HRO2 := Lib.hid hro2
  clear hro2
  subst l1
  have hq0 := H.i64_range w0
  obtain ⟨n, hn⟩ : ∃ n, J.sizeL a0 = n := ⟨_, rfl⟩
  have hsz := J.sizeL_le a0
  rw [hn] at hsz
  have HSZ := Lib.hid (J.rsize_any a0 hq0.1 hq0.2 w)
  rw [hn] at HSZ
  have HRO := Lib.hid (J.rrows_any (c := c1) n hsz.1 (by omega) rd1 (Nat.le_refl _) (by omega) (fun x hx => H.i64_range (wf1 x hx)) (fun _ => True) (fun _ _ => trivial))
  have hel := J.rowsL_err hsz.1 z1
  have hlt := J.rowsL_lt n z1
  obtain ⟨rows, hrows⟩ : ∃ rows, J.rowsL n z1 = rows := ⟨_, rfl⟩
  have HRW := Lib.hid hrows
  rw [hrows] at HRO hel hlt
  have HEL := Lib.hid (And.intro hel hlt)
  have HTB := Lib.hid tb
  have HK := Lib.hid hsz
  have hus := J.errL_small (n := n) (by omega) hel
  have HUS := Lib.hid hus
  have HRL : Hid (rows.length ≤ 1000) := Lib.hid (by have h1 := J.rows_le_used rows; omega)
  clear hn hsz hrows hel hlt tb rd1 wf1 cp1 nz1 r1 w0 hq0 hus 
  have hn9 : n ≤ 1000 := by have := HK.out.2; omega
  go_enter Tryd.func9, Tryd.ntmps9
  go_wp2_with fail
  refine HSZ.out.mono ?_
  rintro r wa ⟨rfl, rfl⟩
  go_wp2_with fail
  refine HRO.out.mono ?_
  rintro r w1 ⟨vr, rfl, hrr, hb1⟩
  have HR1 := Lib.hid (hrr.mono (G' := fun k => k < w1.heap.size) fun k hk _ => hk)
  have HB1 := Lib.hid hb1
  have HT1 := Lib.hid (HTB.out.below HTB.out.pos hb1)
  clear hrr hb1
  go_wp2_with fail
  refine (HRO2.out n HK.out.1 hn9 w1 HB1.out).mono ?_
  rintro r w2 ⟨vg, rfl, hrr, hb2⟩
  rw [HRW.out] at hrr
  have HG2 := Lib.hid (hrr.mono (G' := fun k => w1.heap.size ≤ k ∧ k < w2.heap.size) fun k hk h => ⟨h, hk⟩)
  have HB2 := Lib.hid hb2
  clear hrr hb2
  go_wp2_with fail
  refine (J.fresh_any n HK.out.1 hn9 (HT1.out.below HT1.out.pos HB2.out) HG2.out HEL.out.1 HEL.out.2).mono ?_
  intro r w4 hp
  obtain ⟨bj, bm, vm, m4, s4, FR4, ws4, rfl, hg, _, hr, _, _, hmut, hb4⟩ := J.FreshPost.good HB2.out hp
  have HMT : Hid (∀ k, J.Mut bj bm vm FR4 k → w2.heap.size ≤ k) := Lib.hid hmut
  have HJ4 := Lib.hid hg
  have H4 := Lib.hid hr
  obtain ⟨AG, cG, hvg⟩ := HG2.out.shape
  subst hvg
  obtain ⟨us, hmr, hsl⟩ := J.RR_slices (HG2.out.keep hb4)
  have HMR := Lib.hid (And.intro hmr hsl)
  clear hp hg hr hmut hb4 hmr hsl
  go_wp2_with fail
  go_loopg [10] rows.length (fun g i wr => ∃ k : Nat, k + g = rows.length ∧ i = .int .i64 (k : Nat) ∧ R.MR wr (fun k => w1.heap.size ≤ k ∧ k < w2.heap.size) (.slice AG rows.length cG) us (rows.map List.length) ∧ H.Save (fun k => w1.heap.size ≤ k ∧ k < w2.heap.size) w4 wr)
  case atStart => exact ⟨0, Nat.zero_add _, rfl, HMR.out.1, H.Save.refl _ _⟩
  case round =>
    obtain ⟨k, hg, rfl, hmr, hsv⟩ := hrel
    generalize gk = g0 at *
    have HGG := Lib.hid hg
    have HM := Lib.hid hmr
    have HSV := Lib.hid hsv
    have hkl : k ≤ rows.length := by omega
    have hr10 : rows.length ≤ 1000 := HRL.out
    clear hg hmr hsv
    by_cases hlt : k < rows.length
    · have hki : (k : Int) < (rows.length : Int) := by omega
      obtain ⟨xs, hxs⟩ : ∃ xs, rows[k]? = some xs := ⟨_, List.getElem?_eq_getElem hlt⟩
      obtain ⟨u, hu⟩ : ∃ u, us[k]? = some u := ⟨_, List.getElem?_eq_getElem (by rw [HM.out.2.1, List.length_map]; exact hlt)⟩
      have hn : (rows.map List.length)[k]? = some xs.length := by rw [List.getElem?_map, hxs]; rfl
      obtain ⟨B, cB, hub, _⟩ := HM.out.2.2 k u _ hu hn
      subst hub
      have hxl := J.len_le_used hxs
      have hnb : xs.length ≤ 1000 := by have := HUS.out; omega
      have HU := Lib.hid (And.intro hu hn)
      clear hxs hu hn hxl
      generalize hnl : xs.length = nl at *
      go_wp2_with fail
      go_loopg [11] nl (fun g j wx => ∃ q : Nat, q + g = nl ∧ j = .int .i64 (q : Nat) ∧ R.MR wx (fun k => w1.heap.size ≤ k ∧ k < w2.heap.size) (.slice AG rows.length cG) us (rows.map List.length) ∧ H.Save (fun k => w1.heap.size ≤ k ∧ k < w2.heap.size) w4 wx)
      case atStart => exact ⟨0, Nat.zero_add _, rfl, HM.out, HSV.out⟩
      case round =>
        obtain ⟨q, hg, rfl, hmr, hsv⟩ := hrel
        have HGI := Lib.hid hg
        have HMI := Lib.hid hmr
        have HSI := Lib.hid hsv
        have hql : q ≤ nl := by omega
        have hget := (R.Sl.get hmr.1).2
        obtain ⟨ad, rfl, hgd, hc, _⟩ := hget k _ HU.out.1
        obtain ⟨B2, c2', he2, hin⟩ := hmr.2.2 k _ _ HU.out.1 HU.out.2
        injection he2 with e1 e2 e3
        subst e1 e3
        have HIN := Lib.hid hin
        clear hg hmr hsv hget hgd hin
        by_cases hq : q < nl
        · have hqi : (q : Int) < (nl : Int) := by omega
          obtain ⟨bd, x, rfl, hgb, hcx, hfx⟩ := HIN.out q hq
          have hst := HMI.out.set HMR.out.2 hcx
          have HST := Lib.hid hst
          have HGB : Hid ((fun k => w1.heap.size ≤ k ∧ k < w2.heap.size) (bd.add q).block) := Lib.hid (by rw [H.add_block]; exact hgb)
          clear hst hgb
          go_wp2_with fail
          go_still_tail 14, (by kernel_rfl)
          change wpList _ _ _ _ _ (World.drew _)
          go_wp2_with fail
          go_roundg (gk - 1)
          case measure => have := HGI.out; omega
          case rel => exact ⟨q + 1, by have := HGI.out; omega, by go_num, HST.out _, (HSI.out.setCell HGB.out _).drew⟩
        · have hqi : ¬ (q : Int) < (nl : Int) := by omega
          clear hq
          go_wp2_with fail
          go_roundg (g0 - 1)
          case measure => have := HGG.out; omega
          case rel => exact ⟨k + 1, by have := HGG.out; omega, by go_num, HMI.out, HSI.out⟩
    · have hki : ¬ (k : Int) < (rows.length : Int) := by omega
      clear hlt
      have HJ5 := Lib.hid (HJ4.out.side HSV.out fun j hj => ⟨fun e => by have := HMT.out j e; omega, hj.1⟩)
      obtain ⟨w5, hw5⟩ : ∃ w5, w5 = wr := ⟨_, rfl⟩
      rw [← hw5] at HJ5 ⊢
      clear HGG HM HSV hw5
      go_wp2_with fail
      refine (J.grecords HJ5.out hn9).mono ?_
      rintro r w6 ⟨v6, rfl, hrr, hb6⟩
      have HR6 := Lib.hid hrr
      have HJ6 := Lib.hid (HJ5.out.keep hb6)
      clear hrr hb6
      rw [H4.out] at HR6
      obtain ⟨AQ, cQ, hvq⟩ := HR6.out.shape
      subst hvq
      go_wp2_with fail
      refine (J.rsame_any HR6.out (HR1.out.keep HJ6.out.below) (by have := HUS.out; omega)).mono ?_
      rintro r w7 ⟨rfl, q7, hw7⟩
      rw [decide_eq_true rfl]
      obtain ⟨us2, hmr2, hsl2⟩ := J.RR_slices HR6.out
      have HMR2 := Lib.hid (And.intro (show R.MR w7 (fun k => w5.heap.size ≤ k) (.slice AQ rows.length cQ) us2 (rows.map List.length) by rw [hw7]; exact hmr2) hsl2)
      have HJ6' := HJ6
      clear HJ6
      have HJ6 := Lib.hid (show J.JG w1 w7 bj bm vm m4 s4 FR4 ws4 n 40000 by rw [hw7]; exact HJ6'.out.drewN q7)
      clear hw7 hmr2 hsl2
      go_wp2_with fail
      go_loopg [13] rows.length (fun g i wr => ∃ k : Nat, k + g = rows.length ∧ i = .int .i64 (k : Nat) ∧ R.MR wr (fun k => w5.heap.size ≤ k) (.slice AQ rows.length cQ) us2 (rows.map List.length) ∧ H.Save (fun k => w5.heap.size ≤ k) w7 wr)
      case atStart => exact ⟨0, Nat.zero_add _, rfl, HMR2.out.1, H.Save.refl _ _⟩
      case round =>
        obtain ⟨k, hg, rfl, hmr, hsv⟩ := hrel
        generalize gk = g0 at *
        have HGG := Lib.hid hg
        have HM := Lib.hid hmr
        have HSV := Lib.hid hsv
        have hkl : k ≤ rows.length := by omega
        have hr10 : rows.length ≤ 1000 := HRL.out
        clear hg hmr hsv
        by_cases hlt : k < rows.length
        · have hki : (k : Int) < (rows.length : Int) := by omega
          obtain ⟨xs, hxs⟩ : ∃ xs, rows[k]? = some xs := ⟨_, List.getElem?_eq_getElem hlt⟩
          obtain ⟨u, hu⟩ : ∃ u, us2[k]? = some u := ⟨_, List.getElem?_eq_getElem (by rw [HM.out.2.1, List.length_map]; exact hlt)⟩
          have hn : (rows.map List.length)[k]? = some xs.length := by rw [List.getElem?_map, hxs]; rfl
          obtain ⟨B, cB, hub, _⟩ := HM.out.2.2 k u _ hu hn
          subst hub
          have hxl := J.len_le_used hxs
          have hnb : xs.length ≤ 1000 := by have := HUS.out; omega
          have HU := Lib.hid (And.intro hu hn)
          clear hxs hu hn hxl
          generalize hnl : xs.length = nl at *
          go_wp2_with fail
          go_loopg [14] nl (fun g j wx => ∃ q : Nat, q + g = nl ∧ j = .int .i64 (q : Nat) ∧ R.MR wx (fun k => w5.heap.size ≤ k) (.slice AQ rows.length cQ) us2 (rows.map List.length) ∧ H.Save (fun k => w5.heap.size ≤ k) w7 wx)
          case atStart => exact ⟨0, Nat.zero_add _, rfl, HM.out, HSV.out⟩
          case round =>
            obtain ⟨q, hg, rfl, hmr, hsv⟩ := hrel
            have HGI := Lib.hid hg
            have HMI := Lib.hid hmr
            have HSI := Lib.hid hsv
            have hql : q ≤ nl := by omega
            have hget := (R.Sl.get hmr.1).2
            obtain ⟨ad, rfl, hgd, hc, _⟩ := hget k _ HU.out.1
            obtain ⟨B2, c2', he2, hin⟩ := hmr.2.2 k _ _ HU.out.1 HU.out.2
            injection he2 with e1 e2 e3
            subst e1 e3
            have HIN := Lib.hid hin
            clear hg hmr hsv hget hgd hin
            by_cases hq : q < nl
            · have hqi : (q : Int) < (nl : Int) := by omega
              obtain ⟨bd, x, rfl, hgb, hcx, hfx⟩ := HIN.out q hq
              have hst := HMI.out.set HMR2.out.2 hcx
              have HST := Lib.hid hst
              have HGB : Hid ((fun k => w5.heap.size ≤ k) (bd.add q).block) := Lib.hid (by rw [H.add_block]; exact hgb)
              clear hst hgb
              go_wp2_with fail
              go_still_tail 14, (by kernel_rfl)
              change wpList _ _ _ _ _ (World.drew _)
              go_wp2_with fail
              go_roundg (gk - 1)
              case measure => have := HGI.out; omega
              case rel => exact ⟨q + 1, by have := HGI.out; omega, by go_num, HST.out _, (HSI.out.setCell HGB.out _).drew⟩
            · have hqi : ¬ (q : Int) < (nl : Int) := by omega
              clear hq
              go_wp2_with fail
              go_roundg (g0 - 1)
              case measure => have := HGG.out; omega
              case rel => exact ⟨k + 1, by have := HGG.out; omega, by go_num, HMI.out, HSI.out⟩
        · have hki : ¬ (k : Int) < (rows.length : Int) := by omega
          clear hlt
          have HJ8 := Lib.hid (HJ6.out.side HSV.out fun j hj => ⟨fun e => by have := HJ5.out.mut_lt j e; omega, by have := HJ5.out.below.size; omega⟩)
          go_wp2_with fail
          refine (J.grecords HJ8.out hn9).mono ?_
          rintro r w8 ⟨v8, rfl, hrr, hb8⟩
          have HR8 := Lib.hid hrr
          have HJ9 := Lib.hid (HJ8.out.keep hb8)
          clear hrr hb8
          go_wp2_with fail
          refine (J.rsame_any HR8.out (HR1.out.keep HJ9.out.below) (by rw [H4.out]; have := HUS.out; omega)).mono ?_
          rintro r w9 ⟨rfl, q9, hw9⟩
          rw [H4.out, decide_eq_true rfl]
          have HJ10 := Lib.hid (show J.JG w1 w9 bj bm vm m4 s4 FR4 ws4 n 40000 by rw [hw9]; exact HJ9.out.drewN q9)
          clear hw9
          go_wp2_with fail
          refine (J.gopens HJ10.out HT1.out HK.out.1 hn9 (HR1.out.keep HJ10.out.below)).mono ?_
          rintro r w11 ⟨rfl, hb11⟩
          rw [H4.out, decide_eq_true rfl]
          have HB11 := Lib.hid (HJ10.out.keep hb11).below
          clear hb11
          go_wp2_with fail
          refine (J.glives HB11.out HT1.out).mono ?_
          rintro r w12 ⟨rfl, hb⟩
          have HBE := Lib.hid hb
          clear hb
          go_wp2_with fail
          go_ret
          exact ⟨rfl, HB1.out.trans (HBE.out.mono HB1.out.size)⟩

theorem reads (os : Os) {H0 : Type} (enc : TypeId × Value → H0) : ∃ places, DataW.whole enc Tryd.prog ((Go.Proofs.YtnoohhpajoaaoaaDoor.E.laidWorld os).forCall (fun _ _ => 0) ⟨#[], #[.int .i64 0, .slice none 0 0], []⟩).memory Tryd.f9.params.toList Rows.journalOwnSpec.vars false (#[.int .i64 0, .slice none 0 0] : Array Value).toList 8 = some ([.lit (.int .i64 0), .nil], [], places) :=
  ⟨[], by kernel_rfl⟩
set_option maxRecDepth 100000 in
theorem lifted (os : Os) (started : os.Started) (H0 : Type) (enc : TypeId × Value → H0) (F0 : Stop.Interp) :
    ReturnsInHanded {} Tryd.checked os 9 .any ((OpenSpec.ofChange Rows.journalOwnSpec).preRow enc Tryd.prog Tryd.f9 Rows.journalOwnRow.domain false Rows.journalOwnRow.laid) (((OpenSpec.ofChange Rows.journalOwnSpec).at F0).post enc Tryd.prog Tryd.f9 false true false false) := by
  obtain ⟨places, hx⟩ := reads os enc
  refine returnsInHanded_of_row (C := Tryd.checked) (s := (OpenSpec.ofChange Rows.journalOwnSpec)) Go.Proofs.YtnoohhpajoaaoaaDoor.O.own started (by kernel_rfl) Tryd.func9
    (witness_row_at (enc := enc) (C := Tryd.checked) false (Go.Proofs.YtnoohhpajoaaoaaDoor.E.laidWorld os) #[.int .i64 0, .slice none 0 0] rfl (by kernel_rfl) (by kernel_rfl) (by kernel_rfl)
      (OpenSpec.preRow_of_cond 8 hx (by kernel_rfl) (fun k hk => by cases hk) (by kernel_rfl) (Go.Proofs.YtnoohhpajoaaoaaDoor.E.laid_met os _))) ?_
  intro W base args ds gs before hval0 hW _ hk0 hsz0 hL _ _
  have hsz : (DataW.weightsEach Tryd.prog (Tryd.f9.params.toList ++ (OpenSpec.ofChange Rows.journalOwnSpec).bare.plain.varTypes Tryd.prog) (ds ++ gs)).all (· ≤ reachBytes) = true := hsz0
  clear hsz0
  have hval : ∀ (j : Nat) t v, Tryd.f9.params[j]? = some t → args[j]? = some v → Value.okWide Tryd.prog W .any base t v := hval0
  have hW' := hW
  obtain ⟨p, q, hA0, hV, rfl, hfz, hnd⟩ := hW
  have hA : DataW.TrodAll enc Tryd.prog W 0 (fun _ => true) true Tryd.f9.params.toList args.toList ds p := hA0
  rw [Tryd.params9] at hA hval hsz
  obtain ⟨v0, vs0, d0, ds0, p0, q0, hargs, rfl, rfl, h0, r0⟩ := trodAll_cons hA
  obtain ⟨v1, vs1, d1, ds1, p1, q1, rfl, rfl, rfl, h1, r1⟩ := trodAll_cons r0
  obtain ⟨rfl, rfl, rfl⟩ := trodAll_nil r1
  obtain rfl : args = #[v0, v1] := by cases args; simp_all
  obtain ⟨rfl, rfl⟩ := trodVars_none hV
  obtain ⟨a0, rfl, rfl, rfl, w0⟩ := open_int Tryd.underlying3 (hval 0 3 v0 rfl rfl) h0
  obtain ⟨a1, n1, c1, rfl⟩ := okWide_slice Tryd.underlying31 (hval 1 31 v1 rfl rfl)
  have k1 := h1
  have lt1 : ∀ x ∈ p1, x.block < W.heap.size := by obtain ⟨m, hm⟩ := k1; exact DataW.trod_lt m _ _ _ hm
  obtain ⟨z1, l1, cp1, cq1, nz1, rd1, wf1, bj1⟩ := Go.Proofs.YtnoohhpajoaaoaaDoor.O.open_isT Tryd.underlying31 Tryd.underlying3 (by kernel_rfl) h1
  have el1 := Go.Proofs.YtnoohhpajoaaoaaDoor.O.open_el Tryd.underlying31 Tryd.underlying3 (by kernel_rfl) k1
  clear hA0 hval0
  have r1 : z1.length * 8 ≤ 140737488351232 := by
    rcases el1 with h | ⟨es, sp, h, hle⟩
    · omega
    · have hr := sized_slice hsz (j := 1) (t := 31) (e := 3) (elems := es) (spare := sp) rfl (by simp [h]) Tryd.underlying31
      rw [show Tryd.prog.bytesOf 3 = 8 from by kernel_rfl] at hr
      simp only [reachBytes] at hr
      omega
  have tb := Go.Proofs.YtnoohhpajoaaoaaDoor.E.tab_of_laid hL
  refine (walk a0 a1 n1 c1 z1 W tb w0 l1 ⟨cp1, cq1⟩ nz1 rd1 wf1 r1).mono fun e W' ⟨he, bel⟩ => ?_
  subst he
  exact ⟨_, rfl, _, _, _, [], _, [], hW', trodAll_mk1 (shut_bool Tryd.underlying4 _), (trodAll_cons_mk (shut_int Tryd.underlying3 w0) (trodAll_cons_mk (Below.trod Go.Proofs.YtnoohhpajoaaoaaDoor.O.laidOut (by kernel_rfl) (of_decide_eq_true (by kernel_rfl)) k1 bel lt1) trodAll_mk0)), rfl, bel.frame _, fun h => by cases h⟩

theorem said : Rows.JournalOwnSaid :=
  OpenClaim.holds_of_cond 9 Tryd.f9 rfl rfl rfl rfl rfl rfl rfl ⟨rfl, rfl, rfl, rfl, rfl⟩ rfl rfl rfl rfl rfl (by kernel_rfl) Tryd.func9 (by kernel_rfl)
    (of_decide_eq_true (by kernel_rfl)) (by unfold Func.isWrapper; first | (rw [if_pos (by decide +kernel)]; kernel_rfl) | (rw [if_neg (by decide +kernel)]; exact ⟨rfl, rfl⟩))
    (fun os started H0 enc _ F0 => by rw [OpenClaim.pre_eq_preRow]; exact lifted os started H0 enc F0)
theorem plain (f : FuncId) (fn : Func) (hf : Tryd.pinned.checked.prog.funcNamed "perigee/perigeelaw07.JournalOwn" = some f) (hfn : Tryd.pinned.checked.prog.funcs[f]? = some fn) :
    false = Tryd.pinned.checked.prog.looks [] ∧ ∀ (j : Nat) t, fn.params[j]? = some t → Tryd.pinned.checked.prog.wantsStandIn t = false := by
  obtain rfl : f = 9 := Option.some.inj ((show Tryd.prog.funcNamed "perigee/perigeelaw07.JournalOwn" = some 9 by kernel_rfl).symm.trans hf) |>.symm
  obtain rfl : fn = Tryd.f9 := (Option.some.inj (Tryd.func9.symm.trans hfn)).symm
  refine ⟨by kernel_rfl, fun j t ht => ?_⟩
  rw [Tryd.params9] at ht
  have hm : t ∈ [3, 31] := by simpa using Array.mem_of_getElem? ht
  have hall : ([3, 31].all fun u => !Tryd.prog.wantsStandIn u) = true := by kernel_rfl
  exact (show Tryd.prog.wantsStandIn t = false by simpa using List.all_eq_true.1 hall t hm)
/-- ████ THE CARD ████ -/
theorem proved : Rows.JournalOwnCardSaid :=
  Claim7.holds_tied_plain_at .later [] _ _ _ _ said (fun _ h => by cases h) (by kernel_rfl) (fun _ h => by cases h) journalOwn_row_tie rfl ⟨rfl, rfl⟩ (by kernel_rfl) rfl plain (by kernel_rfl)
end Go.Proofs.YtnoohhpajoaaoaaDoor.journalOwn
