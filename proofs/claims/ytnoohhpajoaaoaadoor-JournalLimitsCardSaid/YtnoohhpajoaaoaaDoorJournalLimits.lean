/-
  For every number, list of numbers and length, JournalLimits returns true: Free and the errors of Append are as specified, and a record of Free words can be added; and the chapter's examples hold.
-/
import Derived.Test.YtnoohhpajoaaoaaDoorJLives
import Derived.Deep.DeepCutAuto
import Derived.Deep.RegionHeld3
import Derived.Deep.LoopGhost
import Derived.Deep.QuietTactic
namespace Go.Proofs.YtnoohhpajoaaoaaDoor.journalLimits
open Go.ChangeShapes Go.WideShapes Go.ChangeAt Go.RowKit
open Go.ChangeMaps (open_string shut_string)
set_option linter.unusedVariables false

set_option maxRecDepth 100000 in
set_option maxHeartbeats 1000000 in
theorem walk (a0 : Int) (a1 : Option Addr) (n1 c1 : Nat) (z1 : List Int) (a2 : Int) (w : World) (tb : E.Tab w) (w0 : (Lit.int .i64 a0).wf = true) (l1 : z1.length = n1) (cp1 : n1 ≤ c1 ∧ c1 ≤ maxLen) (nz1 : a1 = none → c1 = 0) (rd1 : H.RdI w w.heap.size .i64 a1 z1) (wf1 : ∀ n ∈ z1, (Lit.int .i64 n).wf = true) (r1 : z1.length * 8 ≤ 140737488351232) (w2 : (Lit.int .i64 a2).wf = true) :
    Calls Tryd.prog 5 #[.int .i64 a0, .slice a1 n1 c1, .int .i64 a2] w fun e w' => e = .returned (.bool true) ∧ Below w.heap.size w w' := by
  subst l1
  have hq0 := H.i64_range w0
  have hq2 := H.i64_range w2
  obtain ⟨n, hn⟩ : ∃ n, J.sizeL a0 = n := ⟨_, rfl⟩
  have hsz := J.sizeL_le a0
  rw [hn] at hsz
  have HSZ := Lib.hid (J.rsize_any a0 hq0.1 hq0.2 w)
  rw [hn] at HSZ
  have HRO := Lib.hid (J.rrows_any (c := c1) n hsz.1 (by omega) rd1 (Nat.le_refl _) (by omega) (fun x hx => H.i64_range (wf1 x hx)) (fun _ => True) (fun _ _ => trivial))
  have hel := J.rowsL_err hsz.1 z1
  have hlt := J.rowsL_lt n z1
  obtain ⟨rows, hrows⟩ : ∃ rows, J.rowsL n z1 = rows := ⟨_, rfl⟩
  rw [hrows] at HRO hel hlt
  have HEL := Lib.hid (And.intro hel hlt)
  have HTB := Lib.hid tb
  have HK := Lib.hid hsz
  have H2 := Lib.hid hq2
  clear hn hsz hrows hel hlt tb rd1 wf1 cp1 nz1 r1 w0 w2 hq0 hq2
  go_enter Tryd.func5, Tryd.ntmps5
  go_wp2_with fail
  refine HSZ.out.mono ?_
  rintro r wa ⟨rfl, rfl⟩
  go_wp2_with fail
  refine HRO.out.mono ?_
  rintro r w1 ⟨vr, rfl, hrr, hb1⟩
  have HR1 := Lib.hid (hrr.mono (G' := fun k => k < w1.heap.size) fun k hk _ => hk)
  have HB1 := Lib.hid hb1
  have HT1 := Lib.hid (HTB.out.below HTB.out.pos hb1)
  clear hrr hb1
  go_wp2_with fail
  refine (J.fresh_any n HK.out.1 (by have := HK.out.2; omega) (HTB.out.below HTB.out.pos HB1.out) HR1.out HEL.out.1 HEL.out.2).mono ?_
  intro r w2 hp
  obtain ⟨bj, bm, vm, m2, s2, FR2, ws2, rfl, hg, hcl, hr, ho, hl, hmut, hb2⟩ := J.FreshPost.good (Below.refl _ w1) hp
  have HR2 := Lib.hid (HR1.out.keep hb2)
  have HMU : Hid (∀ k, k < w1.heap.size → ¬ J.Mut bj bm vm FR2 k) := Lib.hid (fun k hk e => by have := hmut k e; omega)
  have H2G := Lib.hid (And.intro hg (And.intro hr (And.intro ho hl)))
  clear hp hg hcl hr ho hl hmut hb2
  go_wp2_with fail
  refine (J.gfree H2G.out.1 (by have := HK.out.2; omega)).mono ?_
  rintro r w3 ⟨rfl, q3, hw3⟩
  rw [H2G.out.2.1]
  have HG3 := Lib.hid (show J.JG w1 w3 bj bm vm m2 s2 FR2 ws2 n 40000 by rw [hw3]; exact H2G.out.1.drewN q3)
  have HR3 := Lib.hid (show R.RR w3 (fun k => k < w1.heap.size) vr rows by rw [hw3]; exact HR2.out.drewN q3)
  clear hw3
  have hus := J.errL_small (n := n) (by have := HK.out.2; omega) HEL.out.1
  have HUS := Lib.hid hus
  obtain ⟨fr, hfr⟩ : ∃ fr, J.freeL n rows = fr := ⟨_, rfl⟩
  have HFR := Lib.hid hfr
  rw [hfr]
  clear hus hfr
  go_wp2_with fail
  refine (J.rfree_any n (by have := HK.out.2; omega) HR3.out (by have := HUS.out; omega)).mono ?_
  rintro r r4w ⟨rfl, rfl⟩
  rw [HFR.out]
  go_wp2_with fail
  refine (J.grecord a2 H2.out.1 H2.out.2 9 (by decide) r4w).mono ?_
  obtain ⟨p, hp71⟩ : ∃ p, (H.around a2 71).toNat = p := ⟨_, rfl⟩
  rw [hp71]
  rintro r w5 ⟨v5, rfl, hrd, hb5⟩
  have hxl := J.recL_len p 9
  have hxt := J.recL_lt p 9
  obtain ⟨xs, hxs⟩ : ∃ xs, J.recL p 9 = xs := ⟨_, rfl⟩
  rw [hxs] at hrd hxl hxt
  have hpl : p < 71 := by
    obtain ⟨l, hl, h⟩ := H.around_nat a2 (m := 71) (by decide)
    have hl' : H.around a2 71 = (l : Int) := hl
    rw [hl'] at hp71
    omega
  have HX := Lib.hid (And.intro hrd (And.intro hxt (show xs.length < 71 by omega)))
  have HG5 := Lib.hid (HG3.out.keep hb5)
  have HR5 := Lib.hid (HR3.out.keep hb5)
  have HM5 : Hid (∀ k, r4w.heap.size ≤ k → ¬ J.Mut bj bm vm FR2 k) := Lib.hid (fun k hk e => by have := HG3.out.mut_lt k e; omega)
  have HRL : Hid (rows.length ≤ 1000) := Lib.hid (by have h1 := J.rows_le_used rows; have h2 := HUS.out; omega)
  clear hrd hb5 hxl hxt hxs hp71 hpl
  go_wp2_with fail
  refine (J.gwith HR5.out HX.out.1 (by have := HRL.out; omega)).mono ?_
  rintro r w6 ⟨v6, rfl, hrr, hb6⟩
  have HW6 := Lib.hid hrr
  have HG6 := Lib.hid (HG5.out.keep hb6)
  have HR6 := Lib.hid (HR5.out.keep hb6)
  have HX6 := Lib.hid (R.Sl.keep HX.out.1 hb6)
  clear hrr hb6
  go_wp2_with fail
  refine (J.rerror_any n (by have := HK.out.2; omega) HW6.out (by rw [J.usedL_snoc]; have h1 := HUS.out; have h2 := HX.out.2.2; omega)).mono ?_
  rintro r w7 ⟨rfl, rfl⟩
  obtain ⟨A5, c5, hv5⟩ := R.Sl.shape HX.out.1
  rw [R.w32_len] at hv5
  subst hv5
  have HAP := Lib.hid (J.gappend HG6.out HT1.out HK.out.1 (by decide) H2G.out.2.2.1 H2G.out.2.2.2 HX6.out HM5.out (by have := HX.out.2.2; omega) HX.out.2.1)
  rw [H2G.out.2.1] at HAP
  obtain ⟨el, hel⟩ : ∃ el, J.errL n (rows ++ [xs]) = el := ⟨_, rfl⟩
  have HL : Hid (64 < xs.length → el = 2) := Lib.hid (fun h => by rw [← hel]; exact J.errL_long2 h)
  have HEE := Lib.hid hel
  rw [hel]
  clear hel
  by_cases h64 : 64 < xs.length
  · have h64i : (64 : Int) < (xs.length : Int) := by omega
    obtain rfl := HL.out h64
    have HE0 : Hid (¬ (2 : Int) = 0) := Lib.hid (by decide)
    clear h64 HL
    go_wp2_with fail
    refine HAP.out.mono ?_
    rintro r w8 ⟨m8, s8, FR8, ws8, rfl, hg8, hr8, ho8, hl8, hs8⟩
    have hr9 : s8.rows = rows := by rw [hr8, HEE.out, if_neg HE0.out]
    rw [HEE.out]
    have H8 := Lib.hid (And.intro hg8 (And.intro hr9 (And.intro ho8 hl8)))
    have HB8 := Lib.hid hg8.below
    clear hs8 hg8 hr8 hr9 ho8 hl8
    by_cases hneg : fr < 0
    · go_wp2_with fail
      refine (J.grecords H8.out.1 (by have := HK.out.2; omega)).mono ?_
      rintro r w9 ⟨v9, rfl, hrr, hb9⟩
      have HR9 := Lib.hid (HR1.out.keep (HB8.out.trans (hb9.mono HB8.out.size)))
      have HS9 := Lib.hid hrr
      have HB9 := Lib.hid (HB8.out.trans (hb9.mono HB8.out.size))
      clear hrr hb9
      go_wp2_with fail
      refine (J.rsame_any HS9.out HR9.out (by rw [H8.out.2.1]; have := HUS.out; omega)).mono ?_
      rintro r w10 ⟨rfl, q, rfl⟩
      rw [H8.out.2.1, decide_eq_true rfl]
      go_wp2_with fail
      refine (J.glives (below_drewN HB9.out q) HT1.out).mono ?_
      rintro r w11 ⟨rfl, hb⟩
      have HBE := Lib.hid hb
      clear hb
      go_wp2_with fail
      go_ret
      exact ⟨rfl, HB1.out.trans (HBE.out.mono HB1.out.size)⟩
    · obtain ⟨p2, hp2⟩ : ∃ p : Nat, fr = p := ⟨fr.toNat, by omega⟩
      have hfb := J.freeL_le HFR.out
      have hp64 : p2 ≤ 64 := by omega
      have ha71 : (H.around fr 71).toNat = p2 := by rw [hp2]; unfold H.around; rw [if_neg (by omega), Int.emod_eq_of_lt (by omega) (by omega)]; rfl
      have HREC := Lib.hid (J.grecord fr (by omega) (by omega) 9 (by decide) w8)
      rw [ha71] at HREC
      have hxl := J.recL_len p2 9
      have hxt := J.recL_lt p2 9
      obtain ⟨ys, hys⟩ : ∃ ys, J.recL p2 9 = ys := ⟨_, rfl⟩
      rw [hys] at HREC hxl hxt
      have HY := Lib.hid (And.intro hxt (show ys.length ≤ 64 by omega))
      have HE2 := Lib.hid (J.errL_free HEL.out.1 HFR.out hneg (show (ys.length : Int) = fr by omega))
      clear hp2 hfb hp64 ha71 hxl hxt hys
      go_wp2_with fail
      refine HREC.out.mono ?_
      rintro r w9 ⟨v9, rfl, hrd, hb9⟩
      have HRX := Lib.hid hrd
      have HGM : Hid (∀ k, w8.heap.size ≤ k → ¬ J.Mut bj bm vm FR8 k) := Lib.hid (fun k hk e => by have := H8.out.1.mut_lt k e; omega)
      have HAP2 := Lib.hid (J.gappend (H8.out.1.keep hb9) HT1.out HK.out.1 (by decide) H8.out.2.2.1 H8.out.2.2.2 hrd HGM.out (by have := HY.out.2; omega) HY.out.1)
      rw [H8.out.2.1] at HAP2
      clear hrd hb9
      go_wp2_with fail
      refine HAP2.out.mono ?_
      rintro r w10 ⟨m10, s10, FR10, ws10, rfl, hg10, hr10, ho10, hl10, hs10⟩
      have hr11 : s10.rows = rows ++ [ys] := by rw [hr10, HE2.out, if_pos rfl]
      rw [HE2.out]
      have H9 := Lib.hid (And.intro hg10 hr11)
      have HSV := Lib.hid hs10.1
      have HXL : Hid (ys.length < 71) := Lib.hid (by have := HY.out.2; omega)
      clear hs10 hg10 hr10 hr11 ho10 hl10
      go_wp2_with fail
      refine (J.grecords H9.out.1 (by have := HK.out.2; omega)).mono ?_
      rintro r wr1 ⟨vr1, rfl, hrr, hb9⟩
      have HS9 := Lib.hid hrr
      have HB9 := Lib.hid (H9.out.1.below.trans (hb9.mono H9.out.1.below.size))
      have HX9 := Lib.hid (R.Sl.keep (R.Sl.save HRX.out HSV.out HGM.out) hb9)
      clear hrr hb9
      go_wp2_with fail
      refine (J.gwith (HR1.out.keep HB9.out) HX9.out (by have := HRL.out; omega)).mono ?_
      rintro r wr2 ⟨vr2, rfl, hrr, hb10⟩
      have HS10 := Lib.hid hrr
      have HT10 := Lib.hid (HS9.out.keep hb10)
      have HB10 := Lib.hid (HB9.out.trans (hb10.mono HB9.out.size))
      clear hrr hb10
      go_wp2_with fail
      refine (J.rsame_any HT10.out HS10.out (by rw [H9.out.2]; rw [J.usedL_snoc]; have h1 := HUS.out; have h2 := HXL.out; omega)).mono ?_
      rintro r wr3 ⟨rfl, q, rfl⟩
      rw [H9.out.2, decide_eq_true rfl]
      go_wp2_with fail
      refine (J.glives (below_drewN HB10.out q) HT1.out).mono ?_
      rintro r wr4 ⟨rfl, hb⟩
      have HBE := Lib.hid hb
      clear hb
      go_wp2_with fail
      go_ret
      exact ⟨rfl, HB1.out.trans (HBE.out.mono HB1.out.size)⟩
  · have h64i : ¬ (64 : Int) < (xs.length : Int) := by omega
    clear h64 HL
    by_cases he0 : el = 0
    · subst he0
      go_wp2_with fail
      refine HAP.out.mono ?_
      rintro r w8 ⟨m8, s8, FR8, ws8, rfl, hg8, hr8, ho8, hl8, hs8⟩
      have hr9 : s8.rows = rows ++ [xs] := by rw [hr8, HEE.out, if_pos rfl]
      rw [HEE.out]
      have H9 := Lib.hid (And.intro hg8 hr9)
      have HSV := Lib.hid hs8.1
      have HRX := HX6
      have HGM := HM5
      have HXL : Hid (xs.length < 71) := Lib.hid HX.out.2.2
      clear hs8 hg8 hr8 hr9 ho8 hl8
      go_wp2_with fail
      refine (J.grecords H9.out.1 (by have := HK.out.2; omega)).mono ?_
      rintro r wr1 ⟨vr1, rfl, hrr, hb9⟩
      have HS9 := Lib.hid hrr
      have HB9 := Lib.hid (H9.out.1.below.trans (hb9.mono H9.out.1.below.size))
      have HX9 := Lib.hid (R.Sl.keep (R.Sl.save HRX.out HSV.out HGM.out) hb9)
      clear hrr hb9
      go_wp2_with fail
      refine (J.gwith (HR1.out.keep HB9.out) HX9.out (by have := HRL.out; omega)).mono ?_
      rintro r wr2 ⟨vr2, rfl, hrr, hb10⟩
      have HS10 := Lib.hid hrr
      have HT10 := Lib.hid (HS9.out.keep hb10)
      have HB10 := Lib.hid (HB9.out.trans (hb10.mono HB9.out.size))
      clear hrr hb10
      go_wp2_with fail
      refine (J.rsame_any HT10.out HS10.out (by rw [H9.out.2]; rw [J.usedL_snoc]; have h1 := HUS.out; have h2 := HXL.out; omega)).mono ?_
      rintro r wr3 ⟨rfl, q, rfl⟩
      rw [H9.out.2, decide_eq_true rfl]
      go_wp2_with fail
      refine (J.glives (below_drewN HB10.out q) HT1.out).mono ?_
      rintro r wr4 ⟨rfl, hb⟩
      have HBE := Lib.hid hb
      clear hb
      go_wp2_with fail
      go_ret
      exact ⟨rfl, HB1.out.trans (HBE.out.mono HB1.out.size)⟩
    · have heb : (el == 0) = false := by simp [he0]
      have HE0 : Hid (¬ el = 0) := Lib.hid he0
      clear he0
      go_wp2_with fail
      refine HAP.out.mono ?_
      rintro r w8 ⟨m8, s8, FR8, ws8, rfl, hg8, hr8, ho8, hl8, hs8⟩
      have hr9 : s8.rows = rows := by rw [hr8, HEE.out, if_neg HE0.out]
      rw [HEE.out]
      have H8 := Lib.hid (And.intro hg8 (And.intro hr9 (And.intro ho8 hl8)))
      have HB8 := Lib.hid hg8.below
      clear hs8 hg8 hr8 hr9 ho8 hl8
      by_cases hneg : fr < 0
      · go_wp2_with fail
        refine (J.grecords H8.out.1 (by have := HK.out.2; omega)).mono ?_
        rintro r w9 ⟨v9, rfl, hrr, hb9⟩
        have HR9 := Lib.hid (HR1.out.keep (HB8.out.trans (hb9.mono HB8.out.size)))
        have HS9 := Lib.hid hrr
        have HB9 := Lib.hid (HB8.out.trans (hb9.mono HB8.out.size))
        clear hrr hb9
        go_wp2_with fail
        refine (J.rsame_any HS9.out HR9.out (by rw [H8.out.2.1]; have := HUS.out; omega)).mono ?_
        rintro r w10 ⟨rfl, q, rfl⟩
        rw [H8.out.2.1, decide_eq_true rfl]
        go_wp2_with fail
        refine (J.glives (below_drewN HB9.out q) HT1.out).mono ?_
        rintro r w11 ⟨rfl, hb⟩
        have HBE := Lib.hid hb
        clear hb
        go_wp2_with fail
        go_ret
        exact ⟨rfl, HB1.out.trans (HBE.out.mono HB1.out.size)⟩
      · obtain ⟨p2, hp2⟩ : ∃ p : Nat, fr = p := ⟨fr.toNat, by omega⟩
        have hfb := J.freeL_le HFR.out
        have hp64 : p2 ≤ 64 := by omega
        have ha71 : (H.around fr 71).toNat = p2 := by rw [hp2]; unfold H.around; rw [if_neg (by omega), Int.emod_eq_of_lt (by omega) (by omega)]; rfl
        have HREC := Lib.hid (J.grecord fr (by omega) (by omega) 9 (by decide) w8)
        rw [ha71] at HREC
        have hxl := J.recL_len p2 9
        have hxt := J.recL_lt p2 9
        obtain ⟨ys, hys⟩ : ∃ ys, J.recL p2 9 = ys := ⟨_, rfl⟩
        rw [hys] at HREC hxl hxt
        have HY := Lib.hid (And.intro hxt (show ys.length ≤ 64 by omega))
        have HE2 := Lib.hid (J.errL_free HEL.out.1 HFR.out hneg (show (ys.length : Int) = fr by omega))
        clear hp2 hfb hp64 ha71 hxl hxt hys
        go_wp2_with fail
        refine HREC.out.mono ?_
        rintro r w9 ⟨v9, rfl, hrd, hb9⟩
        have HRX := Lib.hid hrd
        have HGM : Hid (∀ k, w8.heap.size ≤ k → ¬ J.Mut bj bm vm FR8 k) := Lib.hid (fun k hk e => by have := H8.out.1.mut_lt k e; omega)
        have HAP2 := Lib.hid (J.gappend (H8.out.1.keep hb9) HT1.out HK.out.1 (by decide) H8.out.2.2.1 H8.out.2.2.2 hrd HGM.out (by have := HY.out.2; omega) HY.out.1)
        rw [H8.out.2.1] at HAP2
        clear hrd hb9
        go_wp2_with fail
        refine HAP2.out.mono ?_
        rintro r w10 ⟨m10, s10, FR10, ws10, rfl, hg10, hr10, ho10, hl10, hs10⟩
        have hr11 : s10.rows = rows ++ [ys] := by rw [hr10, HE2.out, if_pos rfl]
        rw [HE2.out]
        have H9 := Lib.hid (And.intro hg10 hr11)
        have HSV := Lib.hid hs10.1
        have HXL : Hid (ys.length < 71) := Lib.hid (by have := HY.out.2; omega)
        clear hs10 hg10 hr10 hr11 ho10 hl10
        go_wp2_with fail
        refine (J.grecords H9.out.1 (by have := HK.out.2; omega)).mono ?_
        rintro r wr1 ⟨vr1, rfl, hrr, hb9⟩
        have HS9 := Lib.hid hrr
        have HB9 := Lib.hid (H9.out.1.below.trans (hb9.mono H9.out.1.below.size))
        have HX9 := Lib.hid (R.Sl.keep (R.Sl.save HRX.out HSV.out HGM.out) hb9)
        clear hrr hb9
        go_wp2_with fail
        refine (J.gwith (HR1.out.keep HB9.out) HX9.out (by have := HRL.out; omega)).mono ?_
        rintro r wr2 ⟨vr2, rfl, hrr, hb10⟩
        have HS10 := Lib.hid hrr
        have HT10 := Lib.hid (HS9.out.keep hb10)
        have HB10 := Lib.hid (HB9.out.trans (hb10.mono HB9.out.size))
        clear hrr hb10
        go_wp2_with fail
        refine (J.rsame_any HT10.out HS10.out (by rw [H9.out.2]; rw [J.usedL_snoc]; have h1 := HUS.out; have h2 := HXL.out; omega)).mono ?_
        rintro r wr3 ⟨rfl, q, rfl⟩
        rw [H9.out.2, decide_eq_true rfl]
        go_wp2_with fail
        refine (J.glives (below_drewN HB10.out q) HT1.out).mono ?_
        rintro r wr4 ⟨rfl, hb⟩
        have HBE := Lib.hid hb
        clear hb
        go_wp2_with fail
        go_ret
        exact ⟨rfl, HB1.out.trans (HBE.out.mono HB1.out.size)⟩

theorem reads (os : Os) {H0 : Type} (enc : TypeId × Value → H0) : ∃ places, DataW.whole enc Tryd.prog ((Go.Proofs.YtnoohhpajoaaoaaDoor.E.laidWorld os).forCall (fun _ _ => 0) ⟨#[], #[.int .i64 0, .slice none 0 0, .int .i64 0], []⟩).memory Tryd.f5.params.toList Rows.journalLimitsSpec.vars false (#[.int .i64 0, .slice none 0 0, .int .i64 0] : Array Value).toList 8 = some ([.lit (.int .i64 0), .nil, .lit (.int .i64 0)], [], places) :=
  ⟨[], by kernel_rfl⟩
set_option maxRecDepth 100000 in
theorem lifted (os : Os) (started : os.Started) (H0 : Type) (enc : TypeId × Value → H0) (F0 : Stop.Interp) :
    ReturnsInHanded {} Tryd.checked os 5 .any ((OpenSpec.ofChange Rows.journalLimitsSpec).preRow enc Tryd.prog Tryd.f5 Rows.journalLimitsRow.domain false Rows.journalLimitsRow.laid) (((OpenSpec.ofChange Rows.journalLimitsSpec).at F0).post enc Tryd.prog Tryd.f5 false true false false) := by
  obtain ⟨places, hx⟩ := reads os enc
  refine returnsInHanded_of_row (C := Tryd.checked) (s := (OpenSpec.ofChange Rows.journalLimitsSpec)) Go.Proofs.YtnoohhpajoaaoaaDoor.O.own started (by kernel_rfl) Tryd.func5
    (witness_row_at (enc := enc) (C := Tryd.checked) false (Go.Proofs.YtnoohhpajoaaoaaDoor.E.laidWorld os) #[.int .i64 0, .slice none 0 0, .int .i64 0] rfl (by kernel_rfl) (by kernel_rfl) (by kernel_rfl)
      (OpenSpec.preRow_of_cond 8 hx (by kernel_rfl) (fun k hk => by cases hk) (by kernel_rfl) (Go.Proofs.YtnoohhpajoaaoaaDoor.E.laid_met os _))) ?_
  intro W base args ds gs before hval0 hW _ hk0 hsz0 hL _ _
  have hsz : (DataW.weightsEach Tryd.prog (Tryd.f5.params.toList ++ (OpenSpec.ofChange Rows.journalLimitsSpec).bare.plain.varTypes Tryd.prog) (ds ++ gs)).all (· ≤ reachBytes) = true := hsz0
  clear hsz0
  have hval : ∀ (j : Nat) t v, Tryd.f5.params[j]? = some t → args[j]? = some v → Value.okWide Tryd.prog W .any base t v := hval0
  have hW' := hW
  obtain ⟨p, q, hA0, hV, rfl, hfz, hnd⟩ := hW
  have hA : DataW.TrodAll enc Tryd.prog W 0 (fun _ => true) true Tryd.f5.params.toList args.toList ds p := hA0
  rw [Tryd.params5] at hA hval hsz
  obtain ⟨v0, vs0, d0, ds0, p0, q0, hargs, rfl, rfl, h0, r0⟩ := trodAll_cons hA
  obtain ⟨v1, vs1, d1, ds1, p1, q1, rfl, rfl, rfl, h1, r1⟩ := trodAll_cons r0
  obtain ⟨v2, vs2, d2, ds2, p2, q2, rfl, rfl, rfl, h2, r2⟩ := trodAll_cons r1
  obtain ⟨rfl, rfl, rfl⟩ := trodAll_nil r2
  obtain rfl : args = #[v0, v1, v2] := by cases args; simp_all
  obtain ⟨rfl, rfl⟩ := trodVars_none hV
  obtain ⟨a0, rfl, rfl, rfl, w0⟩ := open_int Tryd.underlying3 (hval 0 3 v0 rfl rfl) h0
  obtain ⟨a1, n1, c1, rfl⟩ := okWide_slice Tryd.underlying31 (hval 1 31 v1 rfl rfl)
  have k1 := h1
  have lt1 : ∀ x ∈ p1, x.block < W.heap.size := by obtain ⟨m, hm⟩ := k1; exact DataW.trod_lt m _ _ _ hm
  obtain ⟨z1, l1, cp1, cq1, nz1, rd1, wf1, bj1⟩ := Go.Proofs.YtnoohhpajoaaoaaDoor.O.open_isT Tryd.underlying31 Tryd.underlying3 (by kernel_rfl) h1
  have el1 := Go.Proofs.YtnoohhpajoaaoaaDoor.O.open_el Tryd.underlying31 Tryd.underlying3 (by kernel_rfl) k1
  obtain ⟨a2, rfl, rfl, rfl, w2⟩ := open_int Tryd.underlying3 (hval 2 3 v2 rfl rfl) h2
  clear hA0 hval0
  have r1 : z1.length * 8 ≤ 140737488351232 := by
    rcases el1 with h | ⟨es, sp, h, hle⟩
    · omega
    · have hr := sized_slice hsz (j := 1) (t := 31) (e := 3) (elems := es) (spare := sp) rfl (by simp [h]) Tryd.underlying31
      rw [show Tryd.prog.bytesOf 3 = 8 from by kernel_rfl] at hr
      simp only [reachBytes] at hr
      omega
  have tb := Go.Proofs.YtnoohhpajoaaoaaDoor.E.tab_of_laid hL
  refine (walk a0 a1 n1 c1 z1 a2 W tb w0 l1 ⟨cp1, cq1⟩ nz1 rd1 wf1 r1 w2).mono fun e W' ⟨he, bel⟩ => ?_
  subst he
  exact ⟨_, rfl, _, _, _, [], _, [], hW', trodAll_mk1 (shut_bool Tryd.underlying4 _), (trodAll_cons_mk (shut_int Tryd.underlying3 w0) (trodAll_cons_mk (Below.trod Go.Proofs.YtnoohhpajoaaoaaDoor.O.laidOut (by kernel_rfl) (of_decide_eq_true (by kernel_rfl)) k1 bel lt1) (trodAll_cons_mk (shut_int Tryd.underlying3 w2) trodAll_mk0))), rfl, bel.frame _, fun h => by cases h⟩

theorem said : Rows.JournalLimitsSaid :=
  OpenClaim.holds_of_cond 5 Tryd.f5 rfl rfl rfl rfl rfl rfl rfl ⟨rfl, rfl, rfl, rfl, rfl⟩ rfl rfl rfl rfl rfl (by kernel_rfl) Tryd.func5 (by kernel_rfl)
    (of_decide_eq_true (by kernel_rfl)) (by unfold Func.isWrapper; first | (rw [if_pos (by decide +kernel)]; kernel_rfl) | (rw [if_neg (by decide +kernel)]; exact ⟨rfl, rfl⟩))
    (fun os started H0 enc _ F0 => by rw [OpenClaim.pre_eq_preRow]; exact lifted os started H0 enc F0)
theorem plain (f : FuncId) (fn : Func) (hf : Tryd.pinned.checked.prog.funcNamed "perigee/perigeelaw07.JournalLimits" = some f) (hfn : Tryd.pinned.checked.prog.funcs[f]? = some fn) :
    false = Tryd.pinned.checked.prog.looks [] ∧ ∀ (j : Nat) t, fn.params[j]? = some t → Tryd.pinned.checked.prog.wantsStandIn t = false := by
  obtain rfl : f = 5 := Option.some.inj ((show Tryd.prog.funcNamed "perigee/perigeelaw07.JournalLimits" = some 5 by kernel_rfl).symm.trans hf) |>.symm
  obtain rfl : fn = Tryd.f5 := (Option.some.inj (Tryd.func5.symm.trans hfn)).symm
  refine ⟨by kernel_rfl, fun j t ht => ?_⟩
  rw [Tryd.params5] at ht
  have hm : t ∈ [3, 31, 3] := by simpa using Array.mem_of_getElem? ht
  have hall : ([3, 31, 3].all fun u => !Tryd.prog.wantsStandIn u) = true := by kernel_rfl
  exact (show Tryd.prog.wantsStandIn t = false by simpa using List.all_eq_true.1 hall t hm)
/-- ████ THE CARD ████ -/
theorem proved : Rows.JournalLimitsCardSaid :=
  Claim7.holds_tied_plain_at .later [] _ _ _ _ said (fun _ h => by cases h) (by kernel_rfl) (fun _ h => by cases h) journalLimits_row_tie rfl ⟨rfl, rfl⟩ (by kernel_rfl) rfl plain (by kernel_rfl)
end Go.Proofs.YtnoohhpajoaaoaaDoor.journalLimits
