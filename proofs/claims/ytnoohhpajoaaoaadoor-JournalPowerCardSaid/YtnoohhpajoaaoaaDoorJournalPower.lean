/-
  For every number of words, two lists of numbers and either way of storing, JournalPower returns true: whatever number of writes the power lasts for, the records are the new ones or the old ones; and the chapter's examples hold.
-/
import Derived.Test.YtnoohhpajoaaoaaDoorJLives
import Derived.Deep.DeepCutAuto
import Derived.Deep.RegionHeld3
import Derived.Deep.LoopGhost
import Derived.Deep.QuietTactic
namespace Go.Proofs.YtnoohhpajoaaoaaDoor.journalPower
open Go.ChangeShapes Go.WideShapes Go.ChangeAt Go.RowKit
open Go.ChangeMaps (open_string shut_string)
set_option linter.unusedVariables false

set_option maxRecDepth 100000 in
set_option maxHeartbeats 1000000 in
theorem walk (a0 : Int) (a1 : Option Addr) (n1 c1 : Nat) (z1 : List Int) (a2 : Option Addr) (n2 c2 : Nat) (z2 : List Int) (a3 : Bool) (w : World) (tb : E.Tab w) (w0 : (Lit.int .i64 a0).wf = true) (l1 : z1.length = n1) (cp1 : n1 ≤ c1 ∧ c1 ≤ maxLen) (nz1 : a1 = none → c1 = 0) (rd1 : H.RdI w w.heap.size .i64 a1 z1) (wf1 : ∀ n ∈ z1, (Lit.int .i64 n).wf = true) (r1 : z1.length * 8 ≤ 140737488351232) (l2 : z2.length = n2) (cp2 : n2 ≤ c2 ∧ c2 ≤ maxLen) (nz2 : a2 = none → c2 = 0) (rd2 : H.RdI w w.heap.size .i64 a2 z2) (wf2 : ∀ n ∈ z2, (Lit.int .i64 n).wf = true) (r2 : z2.length * 8 ≤ 140737488351232) :
    Calls Tryd.prog 4 #[.int .i64 a0, .slice a1 n1 c1, .slice a2 n2 c2, .bool a3] w fun e w' => e = .returned (.bool true) ∧ Below w.heap.size w w' := by
  subst l2
  have hro2 := fun (n : Nat) (h16 : 16 ≤ n) (hn : n ≤ 1000) (W : World) (hW : Below w.heap.size w W) => J.rrows_any (c := c2) n h16 hn (rd2.below hW) hW.size (by omega) (fun x hx => H.i64_range (wf2 x hx)) (fun _ => True) (fun _ _ => trivial)
  have HRO2 := Lib.hid hro2
  clear hro2 rd2 wf2 cp2 nz2 r2
  subst l1
  have hq0 := H.i64_range w0
  obtain ⟨n, hn⟩ : ∃ n, J.sizeL a0 = n := ⟨_, rfl⟩
  have hsz := J.sizeL_le a0
  rw [hn] at hsz
  have HSZ := Lib.hid (J.rsize_any a0 hq0.1 hq0.2 w)
  rw [hn] at HSZ
  have HRO := Lib.hid (J.rrows_any (c := c1) n hsz.1 (by omega) rd1 (Nat.le_refl _) (by omega) (fun x hx => H.i64_range (wf1 x hx)) (fun _ => True) (fun _ _ => trivial))
  have hel := J.rowsL_err hsz.1 z1
  have hlt := J.rowsL_lt n z1
  obtain ⟨rows, hrows⟩ : ∃ rows, J.rowsL n z1 = rows := ⟨_, rfl⟩
  rw [hrows] at HRO hel hlt
  have HEL := Lib.hid (And.intro hel hlt)
  have HTB := Lib.hid tb
  have HK := Lib.hid hsz
  have hus := J.errL_small (n := n) (by omega) hel
  have HUS := Lib.hid hus
  have HRL : Hid (rows.length ≤ 1000) := Lib.hid (by have h1 := J.rows_le_used rows; omega)
  clear hn hsz hrows hel hlt tb rd1 wf1 cp1 nz1 r1 w0 hq0 hus 
  have hn9 : n ≤ 1000 := by have := HK.out.2; omega
  go_enter Tryd.func4, Tryd.ntmps4
  go_wp2_with fail
  refine HSZ.out.mono ?_
  rintro r wa ⟨rfl, rfl⟩
  go_wp2_with fail
  refine HRO.out.mono ?_
  rintro r w1 ⟨vr, rfl, hrr, hb1⟩
  have HR1 := Lib.hid (hrr.mono (G' := fun k => k < w1.heap.size) fun k hk _ => hk)
  have HB1 := Lib.hid hb1
  have HT1 := Lib.hid (HTB.out.below HTB.out.pos hb1)
  clear hrr hb1
  go_wp2_with fail
  refine (HRO2.out n HK.out.1 hn9 w1 HB1.out).mono ?_
  rintro r w2 ⟨vx, rfl, hrr, hb2⟩
  have HX2 := Lib.hid hrr
  have HR2 := Lib.hid (HR1.out.keep hb2)
  have HB2 := Lib.hid (HB1.out.trans (hb2.mono HB1.out.size))
  clear hrr hb2
  cases a3 with
  | true =>
    go_wp2_with fail
    have hxe := J.rowsL_err HK.out.1 z2
    have hxt := J.rowsL_lt n z2
    obtain ⟨nx, hnx⟩ : ∃ nx, J.rowsL n z2 = nx := ⟨_, rfl⟩
    rw [hnx] at HX2 hxe hxt
    have HNE := Lib.hid hxe
    have HNT := Lib.hid hxt
    have HNU := Lib.hid (J.errL_small hn9 hxe)
    clear hxe hxt hnx
    refine (J.rerror_any n (by omega) HX2.out (by have := HNU.out; omega)).mono ?_
    rintro r wb ⟨rfl, rfl⟩
    rw [HNE.out]
    have HTb := Lib.hid (HTB.out.below HTB.out.pos HB2.out)
    have HBB := HB2
    have HRB := Lib.hid (HR2.out.mono (G' := fun k => k < wb.heap.size) fun k hk _ => hk)
    have HNX := Lib.hid (HX2.out.mono (G' := fun k => k < wb.heap.size) fun k hk _ => hk)
    go_wp2_with fail
    refine (J.fresh_any n HK.out.1 hn9 HTb.out HRB.out HEL.out.1 HEL.out.2).mono ?_
    intro r w4 hp
    obtain ⟨bj, bm, vm, m4, s4, FR4, ws4, rfl, hg, _, hr, _, _, hmut, hb4⟩ := J.FreshPost.good (Below.refl _ wb) hp
    have H4 := Lib.hid (And.intro hg hr)
    clear hp hg hr hmut hb4
    go_wp2_with fail
    go_loopg [14, 15] (2 * n + 41) (fun g d i wr => ∃ (k : Nat) (b : Bool), k + g = 2 * n + 41 ∧ d = .bool b ∧ i = .int .i64 (k : Nat) ∧ J.JG wb wr bj bm vm m4 s4 FR4 ws4 n 40000)
    case atStart => exact ⟨0, false, Nat.zero_add _, rfl, rfl, H4.out.1⟩
    case round =>
      obtain ⟨k, bd, hg, rfl, rfl, hj⟩ := hrel
      have HGG := Lib.hid hg
      have HJ := Lib.hid hj
      have hk9 : k ≤ 3000 := by omega
      clear hg hj
      by_cases hlt : k < 2 * n + 41
      · have hki : (k : Int) ≤ 2 * (n : Int) + 40 := by omega
        cases bd with
        | false =>
          have HTR := Lib.hid (HJ.out.tab HTb.out)
          go_wp2_with fail
          refine (M.pclone_any HJ.out.jj.pj.pm HJ.out.jj.ok).mono ?_
          rintro r w5 ⟨b5, v5, rfl, hmade⟩
          have HM5 := Lib.hid hmade
          clear hmade
          go_wp2_with fail
          refine (J.popen_any HM5.out.1 HJ.out.jj.ok (HTR.out.below HTR.out.pos HM5.out.2.2) (by rw [HJ.out.jj.len]; exact HK.out.1) ws4 s4 HJ.out.near.weak (by rw [HJ.out.jj.len]; exact HJ.out.jj.lay)).mono ?_
          intro r w6 hp6
          obtain ⟨bk, sk, FK, rfl, hg6, hr6⟩ := J.gclone HJ.out HM5.out hp6
          have H6 := Lib.hid (And.intro hg6 (hr6.trans H4.out.2))
          clear hp6 hg6 hr6
          go_wp2_with fail
          refine (J.gfuse H6.out.1 (k : Int) (by omega)).mono ?_
          rintro r w6b ⟨rfl, hg6b, _⟩
          have H6B := Lib.hid hg6b
          have HMU : Hid (∀ j, j < wb.heap.size → ¬ J.Mut bk b5 v5 FK j) := Lib.hid (fun j hj e => by
            have hsz := HJ.out.below.size
            have := H6.out.1.mut_ge j e
            omega)
          clear hg6b
          go_wp2_with fail
          refine (J.greplaceA H6B.out HTR.out HK.out.1 (by decide) (HNX.out.keep (HJ.out.below.trans (H6B.out.below.mono HJ.out.below.size))) HMU.out (by have := HNU.out; omega) HNT.out HNE.out).mono ?_
          rintro r w7 ⟨e7, m7, s7, FR7, ws7, rfl, hg7, hs7, _, hcase⟩
          rcases hcase with ⟨rfl, hr7⟩ | ⟨rfl, hr7, ho7⟩
          · have H7 := Lib.hid (And.intro hg7 hr7)
            clear hs7 hg7 hr7
            go_wp2_with fail
            refine (J.grecords H7.out.1 hn9).mono ?_
            rintro r w8 ⟨v8, rfl, hrr, hb8⟩
            have HR8 := Lib.hid hrr
            have H8 := Lib.hid (H7.out.1.keep hb8)
            clear hrr hb8
            go_wp2_with fail
            refine (J.rsame_any HR8.out (HNX.out.keep (HJ.out.below.trans (H8.out.below.mono HJ.out.below.size))) (by rw [H7.out.2]; have := HNU.out; omega)).mono ?_
            rintro r w9 ⟨rfl, q9, hw9⟩
            rw [H7.out.2, decide_eq_true rfl]
            have H9 := Lib.hid (show J.JG wr w9 bk b5 v5 m7 s7 FR7 ws7 n 60000 by rw [hw9]; exact H8.out.drewN q9)
            clear hw9
            go_wp2_with fail
            refine (J.gopens H9.out HTR.out HK.out.1 hn9 (HNX.out.keep (HJ.out.below.trans (H9.out.below.mono HJ.out.below.size)))).mono ?_
            rintro r w10 ⟨rfl, hb10⟩
            rw [H7.out.2, decide_eq_true rfl]
            have H10 := Lib.hid (H9.out.keep hb10)
            clear hb10
            go_wp2_with fail
            refine (M.pon_any H10.out.jj.pj.pm).mono ?_
            rintro r w11 ⟨rfl, rfl⟩
            generalize (!m7.off) = dn
            cases dn
            all_goals (go_wp2_with fail)
            · go_roundg (gk - 1)
              case measure => have := HGG.out; omega
              case rel => exact ⟨k + 1, _, by have := HGG.out; omega, rfl, by go_num, HJ.out.keep H10.out.below⟩
            · go_roundg (gk - 1)
              case measure => have := HGG.out; omega
              case rel => exact ⟨k + 1, _, by have := HGG.out; omega, rfl, by go_num, HJ.out.keep H10.out.below⟩
          · rw [H6.out.2] at hr7
            have H7 := Lib.hid (And.intro hg7 hr7)
            clear hs7 hg7 hr7
            go_wp2_with fail
            refine (J.grecords H7.out.1 hn9).mono ?_
            rintro r w8 ⟨v8, rfl, hrr, hb8⟩
            have HR8 := Lib.hid hrr
            have H8 := Lib.hid (H7.out.1.keep hb8)
            clear hrr hb8
            go_wp2_with fail
            refine (J.rsame_any HR8.out (HRB.out.keep (HJ.out.below.trans (H8.out.below.mono HJ.out.below.size))) (by rw [H7.out.2]; have := HUS.out; omega)).mono ?_
            rintro r w9 ⟨rfl, q9, hw9⟩
            rw [H7.out.2, decide_eq_true rfl]
            have H9 := Lib.hid (show J.JG wr w9 bk b5 v5 m7 s7 FR7 ws7 n 60000 by rw [hw9]; exact H8.out.drewN q9)
            clear hw9
            go_wp2_with fail
            refine (J.gopens H9.out HTR.out HK.out.1 hn9 (HRB.out.keep (HJ.out.below.trans (H9.out.below.mono HJ.out.below.size)))).mono ?_
            rintro r w10 ⟨rfl, hb10⟩
            rw [H7.out.2, decide_eq_true rfl]
            have H10 := Lib.hid (H9.out.keep hb10)
            clear hb10
            go_wp2_with fail
            refine (M.pon_any H10.out.jj.pj.pm).mono ?_
            rintro r w11 ⟨rfl, rfl⟩
            rw [ho7]
            go_wp2_with fail
            go_roundg (gk - 1)
            case measure => have := HGG.out; omega
            case rel => exact ⟨k + 1, _, by have := HGG.out; omega, rfl, by go_num, HJ.out.keep H10.out.below⟩
        | true =>
          go_wp2_with fail
          refine (J.glives HJ.out.below HTb.out).mono ?_
          rintro r wy ⟨rfl, hb⟩
          have HBE := Lib.hid hb
          clear hb
          go_wp2_with fail
          go_ret
          exact ⟨rfl, HBB.out.trans (HBE.out.mono HBB.out.size)⟩
      · have hki : ¬ (k : Int) ≤ 2 * (n : Int) + 40 := by omega
        go_wp2_with fail
        refine (J.glives HJ.out.below HTb.out).mono ?_
        rintro r wy ⟨rfl, hb⟩
        have HBE := Lib.hid hb
        clear hb
        go_wp2_with fail
        go_ret
        exact ⟨rfl, HBB.out.trans (HBE.out.mono HBB.out.size)⟩
  | false =>
    go_wp2_with fail
    refine (J.rfree_any n (by omega) HR2.out (by have := HUS.out; omega)).mono ?_
    rintro r w2b ⟨rfl, rfl⟩
    have hfb := J.freeL_le (rfl : J.freeL n rows = _)
    generalize J.freeL n rows = fr at *
    go_wp2_with fail
    all_goals
      refine (J.gsome _ (by omega) (by omega) 77 (by decide) w2b).mono ?_
      rintro r w3 ⟨v3, xs, rfl, hrd, hxl, hxt, hb3⟩
      have HX3 := Lib.hid (And.intro hrd (And.intro hxl hxt))
      have HR3 := Lib.hid (HR2.out.keep hb3)
      have HB3 := Lib.hid (HB2.out.trans (hb3.mono HB2.out.size))
      clear hrd hxl hxt hb3
      go_wp2_with fail
      refine (J.gwith HR3.out HX3.out.1 (by have := HRL.out; omega)).mono ?_
      rintro r w4 ⟨v4, rfl, hrr, hb4⟩
      have HX4 := Lib.hid hrr
      have HR4 := Lib.hid (HR3.out.keep hb4)
      have HB4 := Lib.hid (HB3.out.trans (hb4.mono HB3.out.size))
      clear hrr hb4
      obtain ⟨nx, hnx⟩ : ∃ nx, rows ++ [xs] = nx := ⟨_, rfl⟩
      have HNA : Hid (nx = rows ++ [xs]) := Lib.hid hnx.symm
      have HNT : Hid (∀ r ∈ nx, ∀ x ∈ r, x < 4294967296) := Lib.hid (fun r hr => by
        rw [← hnx] at hr
        rcases List.mem_append.1 hr with h | h
        · exact HEL.out.2 r h
        · rw [List.mem_singleton.1 h]
          exact HX3.out.2.2)
      have HNW : Hid (J.usedL nx ≤ 1000000) := Lib.hid (by rw [← hnx, J.usedL_snoc]; have h1 := HUS.out; have h2 := HX3.out.2.1; omega)
      rw [hnx] at HX4
      clear hnx
      go_wp2_with fail
      refine (J.rerror_any n (by omega) HX4.out HNW.out).mono ?_
      rintro r wb ⟨rfl, rfl⟩
      have HTb := Lib.hid (HTB.out.below HTB.out.pos HB4.out)
      have HBB := HB4
      by_cases he : J.errL n nx = 0
      · have HNE := Lib.hid he
        have HNU := Lib.hid (J.errL_small hn9 he)
        have HRB := Lib.hid (HR4.out.mono (G' := fun k => k < wb.heap.size) fun k hk _ => hk)
        have HNX := Lib.hid (HX4.out.mono (G' := fun k => k < wb.heap.size) fun k hk _ => hk)
        rw [he]
        clear he
        go_wp2_with fail
        refine (J.fresh_any n HK.out.1 hn9 HTb.out HRB.out HEL.out.1 HEL.out.2).mono ?_
        intro r w4 hp
        obtain ⟨bj, bm, vm, m4, s4, FR4, ws4, rfl, hg, _, hr, _, _, hmut, hb4⟩ := J.FreshPost.good (Below.refl _ wb) hp
        have H4 := Lib.hid (And.intro hg hr)
        clear hp hg hr hmut hb4
        go_wp2_with fail
        go_loopg [14, 15] (2 * n + 41) (fun g d i wr => ∃ (k : Nat) (b : Bool), k + g = 2 * n + 41 ∧ d = .bool b ∧ i = .int .i64 (k : Nat) ∧ J.JG wb wr bj bm vm m4 s4 FR4 ws4 n 40000)
        case atStart => exact ⟨0, false, Nat.zero_add _, rfl, rfl, H4.out.1⟩
        case round =>
          obtain ⟨k, bd, hg, rfl, rfl, hj⟩ := hrel
          have HGG := Lib.hid hg
          have HJ := Lib.hid hj
          have hk9 : k ≤ 3000 := by omega
          clear hg hj
          by_cases hlt : k < 2 * n + 41
          · have hki : (k : Int) ≤ 2 * (n : Int) + 40 := by omega
            cases bd with
            | false =>
              have HTR := Lib.hid (HJ.out.tab HTb.out)
              go_wp2_with fail
              refine (M.pclone_any HJ.out.jj.pj.pm HJ.out.jj.ok).mono ?_
              rintro r w5 ⟨b5, v5, rfl, hmade⟩
              have HM5 := Lib.hid hmade
              clear hmade
              go_wp2_with fail
              refine (J.popen_any HM5.out.1 HJ.out.jj.ok (HTR.out.below HTR.out.pos HM5.out.2.2) (by rw [HJ.out.jj.len]; exact HK.out.1) ws4 s4 HJ.out.near.weak (by rw [HJ.out.jj.len]; exact HJ.out.jj.lay)).mono ?_
              intro r w6 hp6
              obtain ⟨bk, sk, FK, rfl, hg6, hr6⟩ := J.gclone HJ.out HM5.out hp6
              have H6 := Lib.hid (And.intro hg6 (hr6.trans H4.out.2))
              clear hp6 hg6 hr6
              go_wp2_with fail
              refine (J.gfuse H6.out.1 (k : Int) (by omega)).mono ?_
              rintro r w6b ⟨rfl, hg6b, _⟩
              have H6B := Lib.hid hg6b
              have HMU : Hid (∀ j, j < wb.heap.size → ¬ J.Mut bk b5 v5 FK j) := Lib.hid (fun j hj e => by
            have hsz := HJ.out.below.size
            have := H6.out.1.mut_ge j e
            omega)
              clear hg6b
              obtain ⟨AN, cN, hvn⟩ := HNX.out.shape
              have hnl : nx.length = rows.length + 1 := by rw [HNA.out]; simp
              have hlast : nx[rows.length]? = some xs := by rw [HNA.out]; simp
              subst hvn
              obtain ⟨ad, XB, xd, rfl, hc, hrd⟩ := (HNX.out.keep (HJ.out.below.trans (H6B.out.below.mono HJ.out.below.size))).get hlast
              have hrl := HRL.out
              have hxl := J.len_le_used hlast
              have hnl2 : (nx.length : Int) - 1 = (rows.length : Int) := by omega
              have hnl3 : (rows.length : Int) < (nx.length : Int) := by omega
              have hap := J.gappendA H6B.out HTR.out HK.out.1 (by decide) hrd HMU.out (by have := HNU.out; omega) (fun x hx => HNT.out xs (List.mem_of_getElem? hlast) x hx) (by rw [H6.out.2, ← HNA.out]; exact HNE.out)
              rw [H6.out.2, ← HNA.out, ← H6.out.2] at hap
              have HAP := Lib.hid hap
              clear hap hrd hxl hlast hnl
              go_wp2_with fail
              refine HAP.out.mono ?_
              rintro r w7 ⟨e7, m7, s7, FR7, ws7, rfl, hg7, hs7, _, hcase⟩
              rcases hcase with ⟨rfl, hr7⟩ | ⟨rfl, hr7, ho7⟩
              · have H7 := Lib.hid (And.intro hg7 hr7)
                clear hs7 hg7 hr7
                go_wp2_with fail
                refine (J.grecords H7.out.1 hn9).mono ?_
                rintro r w8 ⟨v8, rfl, hrr, hb8⟩
                have HR8 := Lib.hid hrr
                have H8 := Lib.hid (H7.out.1.keep hb8)
                clear hrr hb8
                go_wp2_with fail
                refine (J.rsame_any HR8.out (HNX.out.keep (HJ.out.below.trans (H8.out.below.mono HJ.out.below.size))) (by rw [H7.out.2]; have := HNU.out; omega)).mono ?_
                rintro r w9 ⟨rfl, q9, hw9⟩
                rw [H7.out.2, decide_eq_true rfl]
                have H9 := Lib.hid (show J.JG wr w9 bk b5 v5 m7 s7 FR7 ws7 n 60000 by rw [hw9]; exact H8.out.drewN q9)
                clear hw9
                go_wp2_with fail
                refine (J.gopens H9.out HTR.out HK.out.1 hn9 (HNX.out.keep (HJ.out.below.trans (H9.out.below.mono HJ.out.below.size)))).mono ?_
                rintro r w10 ⟨rfl, hb10⟩
                rw [H7.out.2, decide_eq_true rfl]
                have H10 := Lib.hid (H9.out.keep hb10)
                clear hb10
                go_wp2_with fail
                refine (M.pon_any H10.out.jj.pj.pm).mono ?_
                rintro r w11 ⟨rfl, rfl⟩
                generalize (!m7.off) = dn
                cases dn
                all_goals (go_wp2_with fail)
                · go_roundg (gk - 1)
                  case measure => have := HGG.out; omega
                  case rel => exact ⟨k + 1, _, by have := HGG.out; omega, rfl, by go_num, HJ.out.keep H10.out.below⟩
                · go_roundg (gk - 1)
                  case measure => have := HGG.out; omega
                  case rel => exact ⟨k + 1, _, by have := HGG.out; omega, rfl, by go_num, HJ.out.keep H10.out.below⟩
              · rw [H6.out.2] at hr7
                have H7 := Lib.hid (And.intro hg7 hr7)
                clear hs7 hg7 hr7
                go_wp2_with fail
                refine (J.grecords H7.out.1 hn9).mono ?_
                rintro r w8 ⟨v8, rfl, hrr, hb8⟩
                have HR8 := Lib.hid hrr
                have H8 := Lib.hid (H7.out.1.keep hb8)
                clear hrr hb8
                go_wp2_with fail
                refine (J.rsame_any HR8.out (HRB.out.keep (HJ.out.below.trans (H8.out.below.mono HJ.out.below.size))) (by rw [H7.out.2]; have := HUS.out; omega)).mono ?_
                rintro r w9 ⟨rfl, q9, hw9⟩
                rw [H7.out.2, decide_eq_true rfl]
                have H9 := Lib.hid (show J.JG wr w9 bk b5 v5 m7 s7 FR7 ws7 n 60000 by rw [hw9]; exact H8.out.drewN q9)
                clear hw9
                go_wp2_with fail
                refine (J.gopens H9.out HTR.out HK.out.1 hn9 (HRB.out.keep (HJ.out.below.trans (H9.out.below.mono HJ.out.below.size)))).mono ?_
                rintro r w10 ⟨rfl, hb10⟩
                rw [H7.out.2, decide_eq_true rfl]
                have H10 := Lib.hid (H9.out.keep hb10)
                clear hb10
                go_wp2_with fail
                refine (M.pon_any H10.out.jj.pj.pm).mono ?_
                rintro r w11 ⟨rfl, rfl⟩
                rw [ho7]
                go_wp2_with fail
                go_roundg (gk - 1)
                case measure => have := HGG.out; omega
                case rel => exact ⟨k + 1, _, by have := HGG.out; omega, rfl, by go_num, HJ.out.keep H10.out.below⟩
            | true =>
              go_wp2_with fail
              refine (J.glives HJ.out.below HTb.out).mono ?_
              rintro r wy ⟨rfl, hb⟩
              have HBE := Lib.hid hb
              clear hb
              go_wp2_with fail
              go_ret
              exact ⟨rfl, HBB.out.trans (HBE.out.mono HBB.out.size)⟩
          · have hki : ¬ (k : Int) ≤ 2 * (n : Int) + 40 := by omega
            go_wp2_with fail
            refine (J.glives HJ.out.below HTb.out).mono ?_
            rintro r wy ⟨rfl, hb⟩
            have HBE := Lib.hid hb
            clear hb
            go_wp2_with fail
            go_ret
            exact ⟨rfl, HBB.out.trans (HBE.out.mono HBB.out.size)⟩
      · have heb : (J.errL n nx != 0) = true := by simp [he]
        generalize J.errL n nx = el at *
        clear he
        go_wp2_with fail
        refine (J.glives HB4.out HTB.out).mono ?_
        rintro r wy ⟨rfl, hb⟩
        have HBE := Lib.hid hb
        clear hb
        go_wp2_with fail
        go_ret
        exact ⟨rfl, HBE.out⟩

theorem reads (os : Os) {H0 : Type} (enc : TypeId × Value → H0) : ∃ places, DataW.whole enc Tryd.prog ((Go.Proofs.YtnoohhpajoaaoaaDoor.E.laidWorld os).forCall (fun _ _ => 0) ⟨#[], #[.int .i64 0, .slice none 0 0, .slice none 0 0, .bool false], []⟩).memory Tryd.f4.params.toList Rows.journalPowerSpec.vars false (#[.int .i64 0, .slice none 0 0, .slice none 0 0, .bool false] : Array Value).toList 8 = some ([.lit (.int .i64 0), .nil, .nil, .lit (.bool false)], [], places) :=
  ⟨[], by kernel_rfl⟩
set_option maxRecDepth 100000 in
theorem lifted (os : Os) (started : os.Started) (H0 : Type) (enc : TypeId × Value → H0) (F0 : Stop.Interp) :
    ReturnsInHanded {} Tryd.checked os 4 .any ((OpenSpec.ofChange Rows.journalPowerSpec).preRow enc Tryd.prog Tryd.f4 Rows.journalPowerRow.domain false Rows.journalPowerRow.laid) (((OpenSpec.ofChange Rows.journalPowerSpec).at F0).post enc Tryd.prog Tryd.f4 false true false false) := by
  obtain ⟨places, hx⟩ := reads os enc
  refine returnsInHanded_of_row (C := Tryd.checked) (s := (OpenSpec.ofChange Rows.journalPowerSpec)) Go.Proofs.YtnoohhpajoaaoaaDoor.O.own started (by kernel_rfl) Tryd.func4
    (witness_row_at (enc := enc) (C := Tryd.checked) false (Go.Proofs.YtnoohhpajoaaoaaDoor.E.laidWorld os) #[.int .i64 0, .slice none 0 0, .slice none 0 0, .bool false] rfl (by kernel_rfl) (by kernel_rfl) (by kernel_rfl)
      (OpenSpec.preRow_of_cond 8 hx (by kernel_rfl) (fun k hk => by cases hk) (by kernel_rfl) (Go.Proofs.YtnoohhpajoaaoaaDoor.E.laid_met os _))) ?_
  intro W base args ds gs before hval0 hW _ hk0 hsz0 hL _ _
  have hsz : (DataW.weightsEach Tryd.prog (Tryd.f4.params.toList ++ (OpenSpec.ofChange Rows.journalPowerSpec).bare.plain.varTypes Tryd.prog) (ds ++ gs)).all (· ≤ reachBytes) = true := hsz0
  clear hsz0
  have hval : ∀ (j : Nat) t v, Tryd.f4.params[j]? = some t → args[j]? = some v → Value.okWide Tryd.prog W .any base t v := hval0
  have hW' := hW
  obtain ⟨p, q, hA0, hV, rfl, hfz, hnd⟩ := hW
  have hA : DataW.TrodAll enc Tryd.prog W 0 (fun _ => true) true Tryd.f4.params.toList args.toList ds p := hA0
  rw [Tryd.params4] at hA hval hsz
  obtain ⟨v0, vs0, d0, ds0, p0, q0, hargs, rfl, rfl, h0, r0⟩ := trodAll_cons hA
  obtain ⟨v1, vs1, d1, ds1, p1, q1, rfl, rfl, rfl, h1, r1⟩ := trodAll_cons r0
  obtain ⟨v2, vs2, d2, ds2, p2, q2, rfl, rfl, rfl, h2, r2⟩ := trodAll_cons r1
  obtain ⟨v3, vs3, d3, ds3, p3, q3, rfl, rfl, rfl, h3, r3⟩ := trodAll_cons r2
  obtain ⟨rfl, rfl, rfl⟩ := trodAll_nil r3
  obtain rfl : args = #[v0, v1, v2, v3] := by cases args; simp_all
  obtain ⟨rfl, rfl⟩ := trodVars_none hV
  obtain ⟨a0, rfl, rfl, rfl, w0⟩ := open_int Tryd.underlying3 (hval 0 3 v0 rfl rfl) h0
  obtain ⟨a1, n1, c1, rfl⟩ := okWide_slice Tryd.underlying31 (hval 1 31 v1 rfl rfl)
  have k1 := h1
  have lt1 : ∀ x ∈ p1, x.block < W.heap.size := by obtain ⟨m, hm⟩ := k1; exact DataW.trod_lt m _ _ _ hm
  obtain ⟨z1, l1, cp1, cq1, nz1, rd1, wf1, bj1⟩ := Go.Proofs.YtnoohhpajoaaoaaDoor.O.open_isT Tryd.underlying31 Tryd.underlying3 (by kernel_rfl) h1
  have el1 := Go.Proofs.YtnoohhpajoaaoaaDoor.O.open_el Tryd.underlying31 Tryd.underlying3 (by kernel_rfl) k1
  obtain ⟨a2, n2, c2, rfl⟩ := okWide_slice Tryd.underlying31 (hval 2 31 v2 rfl rfl)
  have k2 := h2
  have lt2 : ∀ x ∈ p2, x.block < W.heap.size := by obtain ⟨m, hm⟩ := k2; exact DataW.trod_lt m _ _ _ hm
  obtain ⟨z2, l2, cp2, cq2, nz2, rd2, wf2, bj2⟩ := Go.Proofs.YtnoohhpajoaaoaaDoor.O.open_isT Tryd.underlying31 Tryd.underlying3 (by kernel_rfl) h2
  have el2 := Go.Proofs.YtnoohhpajoaaoaaDoor.O.open_el Tryd.underlying31 Tryd.underlying3 (by kernel_rfl) k2
  obtain ⟨a3, rfl, rfl, rfl⟩ := open_bool Tryd.underlying4 (hval 3 4 v3 rfl rfl) h3
  clear hA0 hval0
  have r1 : z1.length * 8 ≤ 140737488351232 := by
    rcases el1 with h | ⟨es, sp, h, hle⟩
    · omega
    · have hr := sized_slice hsz (j := 1) (t := 31) (e := 3) (elems := es) (spare := sp) rfl (by simp [h]) Tryd.underlying31
      rw [show Tryd.prog.bytesOf 3 = 8 from by kernel_rfl] at hr
      simp only [reachBytes] at hr
      omega
  have r2 : z2.length * 8 ≤ 140737488351232 := by
    rcases el2 with h | ⟨es, sp, h, hle⟩
    · omega
    · have hr := sized_slice hsz (j := 2) (t := 31) (e := 3) (elems := es) (spare := sp) rfl (by simp [h]) Tryd.underlying31
      rw [show Tryd.prog.bytesOf 3 = 8 from by kernel_rfl] at hr
      simp only [reachBytes] at hr
      omega
  have tb := Go.Proofs.YtnoohhpajoaaoaaDoor.E.tab_of_laid hL
  refine (walk a0 a1 n1 c1 z1 a2 n2 c2 z2 a3 W tb w0 l1 ⟨cp1, cq1⟩ nz1 rd1 wf1 r1 l2 ⟨cp2, cq2⟩ nz2 rd2 wf2 r2).mono fun e W' ⟨he, bel⟩ => ?_
  subst he
  exact ⟨_, rfl, _, _, _, [], _, [], hW', trodAll_mk1 (shut_bool Tryd.underlying4 _), (trodAll_cons_mk (shut_int Tryd.underlying3 w0) (trodAll_cons_mk (Below.trod Go.Proofs.YtnoohhpajoaaoaaDoor.O.laidOut (by kernel_rfl) (of_decide_eq_true (by kernel_rfl)) k1 bel lt1) (trodAll_cons_mk (Below.trod Go.Proofs.YtnoohhpajoaaoaaDoor.O.laidOut (by kernel_rfl) (of_decide_eq_true (by kernel_rfl)) k2 bel lt2) (trodAll_cons_mk (shut_bool Tryd.underlying4 _) trodAll_mk0)))), rfl, bel.frame _, fun h => by cases h⟩

theorem said : Rows.JournalPowerSaid :=
  OpenClaim.holds_of_cond 4 Tryd.f4 rfl rfl rfl rfl rfl rfl rfl ⟨rfl, rfl, rfl, rfl, rfl⟩ rfl rfl rfl rfl rfl (by kernel_rfl) Tryd.func4 (by kernel_rfl)
    (of_decide_eq_true (by kernel_rfl)) (by unfold Func.isWrapper; first | (rw [if_pos (by decide +kernel)]; kernel_rfl) | (rw [if_neg (by decide +kernel)]; exact ⟨rfl, rfl⟩))
    (fun os started H0 enc _ F0 => by rw [OpenClaim.pre_eq_preRow]; exact lifted os started H0 enc F0)
theorem plain (f : FuncId) (fn : Func) (hf : Tryd.pinned.checked.prog.funcNamed "perigee/perigeelaw07.JournalPower" = some f) (hfn : Tryd.pinned.checked.prog.funcs[f]? = some fn) :
    false = Tryd.pinned.checked.prog.looks [] ∧ ∀ (j : Nat) t, fn.params[j]? = some t → Tryd.pinned.checked.prog.wantsStandIn t = false := by
  obtain rfl : f = 4 := Option.some.inj ((show Tryd.prog.funcNamed "perigee/perigeelaw07.JournalPower" = some 4 by kernel_rfl).symm.trans hf) |>.symm
  obtain rfl : fn = Tryd.f4 := (Option.some.inj (Tryd.func4.symm.trans hfn)).symm
  refine ⟨by kernel_rfl, fun j t ht => ?_⟩
  rw [Tryd.params4] at ht
  have hm : t ∈ [3, 31, 31, 4] := by simpa using Array.mem_of_getElem? ht
  have hall : ([3, 31, 31, 4].all fun u => !Tryd.prog.wantsStandIn u) = true := by kernel_rfl
  exact (show Tryd.prog.wantsStandIn t = false by simpa using List.all_eq_true.1 hall t hm)
/-- ████ THE CARD ████ -/
theorem proved : Rows.JournalPowerCardSaid :=
  Claim7.holds_tied_plain_at .later [] _ _ _ _ said (fun _ h => by cases h) (by kernel_rfl) (fun _ h => by cases h) journalPower_row_tie rfl ⟨rfl, rfl⟩ (by kernel_rfl) rfl plain (by kernel_rfl)
end Go.Proofs.YtnoohhpajoaaoaaDoor.journalPower
