/-
  For every number of words and every script, JournalScript returns true: for up to 40 operations, power losses, resets and single flips every result is as specified, and after each step the journal and what Open returns have exactly the records that were stored; and the chapter's examples hold.
-/
import Derived.Test.YtnoohhpajoaaoaaDoorJScript
import Derived.Deep.DeepCutAuto
import Derived.Deep.RegionHeld3
import Derived.Deep.LoopGhost
import Derived.Deep.QuietTactic
namespace Go.Proofs.YtnoohhpajoaaoaaDoor.journalScript
open Go.ChangeShapes Go.WideShapes Go.ChangeAt Go.RowKit
open Go.ChangeMaps (open_string shut_string)
set_option linter.unusedVariables false

set_option maxRecDepth 100000 in
set_option maxHeartbeats 1000000 in
theorem walk (a0 : Int) (a1 : Option Addr) (n1 c1 : Nat) (z1 : List J.Sc) (w : World) (tb : E.Tab w) (w0 : (Lit.int .i64 a0).wf = true) (l1 : z1.length = n1) (cp1 : n1 ≤ c1 ∧ c1 ≤ maxLen) (nz1 : a1 = none → c1 = 0) (rd1 : J.RdsSc w w.heap.size a1 z1) (ok1 : ∀ x ∈ z1, x.Ok) :
    Calls Tryd.prog 3 #[.int .i64 a0, .slice a1 n1 c1] w fun e w' => e = .returned (.bool true) ∧ Below w.heap.size w w' := by
  have hq0 := H.i64_range w0
  obtain ⟨n, hn⟩ : ∃ n, J.sizeL a0 = n := ⟨_, rfl⟩
  have hsz := J.sizeL_le a0
  rw [hn] at hsz
  have HSZ := Lib.hid (J.rsize_any a0 hq0.1 hq0.2 w)
  rw [hn] at HSZ
  have HTB := Lib.hid tb
  have HK := Lib.hid hsz
  have HL := Lib.hid l1
  have HR := Lib.hid rd1
  have HOK := Lib.hid ok1
  have HCP := Lib.hid cp1
  obtain ⟨i0, hi, hz0, hz1, hz2⟩ := info_parts J.infoB
  have HMK := Lib.hid (fun W : World => run_makeSlice (P := Tryd.prog) W 29 4 i0 (.bool false) Tryd.underlying29 hi hz0 .i64 .i64 (n : Int) (n : Int) (by omega) (Int.le_refl _) (by rw [hz1, Int.toNat_natCast]; omega) (by rw [hz2]; omega) (by omega))
  clear hn hsz tb w0 hq0 l1 rd1 ok1 cp1 nz1 hi hz0 hz2
  go_enter Tryd.func3, Tryd.ntmps3
  go_wp2_with fail
  refine HSZ.out.mono ?_
  rintro r wa ⟨rfl, rfl⟩
  go_wp2_with fail
  refine (J.fresh_any n HK.out.1 (by have := HK.out.2; omega) HTB.out (G := fun _ => True) R.RR.nil (J.errL_none HK.out.1) (fun r hr => by simp at hr)).mono ?_
  intro r w2 hp
  obtain ⟨bj, bm, vm, m2, s2, FR2, ws2, rfl, hg, hcl, hr, ho, hl, hmut, hb2⟩ := J.FreshPost.good (Below.refl _ wa) hp
  have HMU : Hid (∀ k, k < wa.heap.size → ¬ J.Mut bj bm vm FR2 k) := Lib.hid (fun k hk e => by have := hmut k e; omega)
  have H2G := Lib.hid (And.intro hg (And.intro hr (And.intro ho (And.intro hl hcl))))
  clear hp hg hcl hr ho hl hmut
  have HS0 := Lib.hid (J.RS.start H2G.out.1 H2G.out.2.1 H2G.out.2.2.1 H2G.out.2.2.2.1 H2G.out.2.2.2.2)
  have hmk := HMK.out w2
  rw [hz1, Int.toNat_natCast, Nat.mul_one] at hmk
  go_wp2_with fail
  go_loopg [11, 7, 8, 9, 10] 40 (fun g i vj vn vz vf wr => ∃ (k : Nat) (m : M.Mem) (s : J.JS) (FR : Nat → Prop) (ws : Nat → Nat) (bj bf : Nat) (fs : List Bool) (fz : Bool), k + g = 40 ∧ k ≤ n1 ∧ i = .int .i64 (k : Nat) ∧ vj = .pointer (some ⟨bj, 0, none⟩) ∧ vz = .bool fz ∧ vf = .slice (some ⟨bf, 0, none⟩) n n ∧ J.RS wa wr bj bm bf vm vn m s FR ws fs fz n (40000 + 20000 * k))
  case atStart => exact ⟨0, m2, s2, FR2, ws2, bj, _, _, false, Nat.zero_add _, Nat.zero_le _, rfl, rfl, rfl, rfl, HS0.out⟩
  clear hmk
  case round =>
    obtain ⟨k, m, s, FR, ws, bj, bf, fs, fz, hg, hkn, rfl, rfl, rfl, rfl, hs⟩ := hrel
    have HGG := Lib.hid hg
    have HS := Lib.hid hs
    have hn9 : n ≤ 1000 := by have := HK.out.2; omega
    have hk40 : k ≤ 40 := by omega
    clear hg hs
    by_cases hlt : k < n1
    · have hki : (k : Int) < (n1 : Int) := by omega
      by_cases hl4 : k < 40
      · have hki4 : (k : Int) < 40 := by omega
        obtain ⟨o, ho⟩ : ∃ e, z1[k]? = some e := ⟨_, List.getElem?_eq_getElem (by rw [HL.out]; exact hlt)⟩
        obtain ⟨kd, xn, xa, xf, xl, xA, xc⟩ := o
        obtain ⟨ad, rfl, _, _, e0, e1, e2, e3, e4⟩ := (HR.out.below HS.out.jg.below) k _ ho
        have hok := HOK.out _ (List.mem_of_getElem? ho)
        have HRL := Lib.hid (show H.RdI wa wa.heap.size .i64 xA xl by obtain ⟨_, _, _, h, _⟩ := HR.out k _ ho; exact h)
        have HXO := Lib.hid hok
        have hxf : xf < 4294967296 := hok.first
        dsimp only at e0 e1 e2 e3 e4
        clear ho hok
        go_wp2_with fail
        have hop := J.op_cells wr kd xn xa xf (.slice xA xl.length xc)
        have HS4 := Lib.hid (HS.out.keep (w' := wr.alloc (J.opObj kd xn xa xf (.slice xA xl.length xc))) ((Below.refl _ _).alloc (Nat.le_refl _) _))
        unfold J.opObj at hop HS4
        clear e0 e1 e2 e3 e4
        generalize wr.alloc _ = w4 at hop HS4 ⊢
        generalize wr.heap.size = px at hop ⊢
        obtain ⟨c0, c1x, c2, c3, c4⟩ := hop
        clear HS
        refine (M.pon_any HS4.out.jg.jj.pj.pm).mono ?_
        rintro r w5 ⟨rfl, rfl⟩
        obtain ⟨on, hon⟩ : ∃ b, (!m.off) = b := ⟨_, rfl⟩
        have HON := Lib.hid hon
        rw [hon]
        clear hon
        by_cases hk0 : kd = 0
        · subst hk0
          go_wp2_with fail
          refine (J.gsome xn HXO.out.n.1 HXO.out.n.2 xf hxf w5).mono ?_
          rintro r w6 ⟨vr, xs, rfl, hrd, hx71, hxs, hb6⟩
          have HRD := Lib.hid (And.intro hrd (And.intro hx71 (And.intro hxs hb6)))
          clear hrd hx71 hxs hb6
          go_wp2_with fail
          refine (HS4.out.with hn9 HRD.out.2.2.2 HRD.out.1).mono ?_
          rintro r w7 ⟨vn2, rfl, hrr, hb7⟩
          have HS7 := Lib.hid ((HS4.out.keep HRD.out.2.2.2).keep hb7)
          have HRW := Lib.hid hrr
          have HRX := Lib.hid (R.Sl.keep HRD.out.1 hb7)
          have HNM : Hid (∀ k, w5.heap.size ≤ k → ¬ J.Mut bj bm vm FR k) := Lib.hid (fun k hk => (HS4.out.lt k hk).1)
          clear hrr hb7
          go_wp2_with fail
          refine (J.gappendS HS7.out.jg HTB.out HK.out.1 (by omega) HRX.out HNM.out (by have := HRD.out.2.1; omega) HRD.out.2.2.1).mono ?_
          intro r w8 hp
          obtain ⟨e8, m8, s8, FR8, ws8, rfl, hrr, hok8, hs8⟩ := HS7.out.store HRW.out hp
          have HS8 := Lib.hid (And.intro hrr (And.intro hok8 hs8))
          clear hp hrr hok8 hs8
          go_wp2_with fail
          refine (J.store_any HS8.out.2.2.jg.jj.pj.pm HS8.out.2.2.jg.jj.ok on fz HS8.out.1 (by have := HS7.out.used hn9; rw [J.usedL_snoc]; have := HRD.out.2.1; omega) e8).mono ?_
          rintro r w9 ⟨rfl, rfl⟩
          have HOK9 := HS8.out.2.1
          rw [HON.out, ← HS8.out.2.2.jg.jj.len] at HOK9
          rw [HOK9]
          have HT := Lib.hid (HS8.out.2.2)
          rw [HON.out] at HT
          rw [HS8.out.2.2.jg.jj.len]
          clear HOK9
          generalize (if J.storeK _ on e8 = true then _ else _ : Value) = vn9 at HT ⊢
          go_wp2_with fail
          refine (J.grecords HT.out.jg hn9).mono ?_
          rintro r wt ⟨vt, rfl, hrr, hb⟩
          have HT2 := Lib.hid (HT.out.keep hb)
          have HSM := Lib.hid (J.rsame_any hrr HT2.out.now (by have := HT2.out.used hn9; omega))
          rw [decide_eq_true rfl] at HSM
          clear hrr hb
          go_wp2_with fail
          refine HSM.out.mono ?_
          rintro r wt2 ⟨rfl, q, hw⟩
          have HT3 := Lib.hid (HT2.out.drewN q)
          rw [← hw] at HT3
          clear hw HSM
          go_wp2_with fail
          refine (J.gfree HT3.out.jg hn9).mono ?_
          rintro r wt3 ⟨rfl, q2, hw⟩
          have HT4 := Lib.hid (HT3.out.drewN q2)
          rw [← hw] at HT4
          have HFR := Lib.hid (J.rfree_any n (by omega) HT4.out.now (by have := HT4.out.used hn9; omega))
          have HOP := Lib.hid (J.gopens HT4.out.jg HTB.out HK.out.1 hn9 HT4.out.now)
          rw [decide_eq_true rfl] at HOP
          clear hw
          generalize J.freeL n _ = fr at HFR ⊢
          go_wp2_with fail
          refine HFR.out.mono ?_
          rintro r wt4 ⟨rfl, rfl⟩
          go_wp2_with fail
          refine HOP.out.mono ?_
          rintro r wt5 ⟨rfl, hb⟩
          have HT5 := Lib.hid (HT4.out.keep hb)
          clear hb
          go_wp2_with fail
          go_roundg (gk - 1)
          case measure => have := HGG.out; omega
          case rel => exact ⟨k + 1, m8, s8, FR8, ws8, bj, bf, fs, fz, by have := HGG.out; omega, by omega, by go_num, rfl, rfl, rfl, HT5.out.more (by omega)⟩
        by_cases hk1 : kd = 1
        · subst hk1
          obtain ⟨l, hl0, hl40⟩ := H.around_nat xn (m := 40) (by decide)
          have hl1 : H.around xn 40 = (l : Int) := hl0
          have HA := Lib.hid (fun W => H.around_any xn 40 HXO.out.n.1 HXO.out.n.2 (by decide) (by decide) W)
          rw [hl1] at HA
          obtain ⟨q, hq⟩ : ∃ q, n + l = q := ⟨_, rfl⟩
          have hq16 : 16 ≤ q := by have := HK.out.1; omega
          have hq9 : q ≤ 1000 := by have := HK.out.2; omega
          have hqi : (n : Int) + (l : Int) = (q : Int) := by omega
          have hxl : xl.length ≤ maxLen := Nat.le_trans HXO.out.l.2.1 HXO.out.l.2.2.1
          unfold maxLen at hxl
          have HRO := Lib.hid (fun (W : World) (hW : Below wa.heap.size wa W) => J.rrows_any (c := xc) q hq16 hq9 (HRL.out.below hW) hW.size (by omega) (fun x hx => H.i64_range (HXO.out.l.1 x hx)) (fun k => W.heap.size ≤ k) (fun k hk => hk))
          have hel := J.rowsL_err hq16 xl
          have hlt2 := J.rowsL_lt q xl
          obtain ⟨rows, hrows⟩ : ∃ rows, J.rowsL q xl = rows := ⟨_, rfl⟩
          rw [hrows] at HRO hel hlt2
          have HRW := Lib.hid (And.intro (J.errL_small hq9 hel) hlt2)
          have HQW : Hid (IntKind.i64.wrap ((n : Int) + (l : Int)) = (q : Int)) := Lib.hid (by rw [IntKind.wrap_i64]; omega)
          have HQI := Lib.hid hqi
          have HR2 := Lib.hid (fun (W : World) (hW : Below wa.heap.size wa W) (a : Int) (ha : a = (q : Int)) => (show Calls Tryd.prog 18 #[.int .i64 a, .slice xA xl.length xc] W fun r w' => ∃ v', r = .returned v' ∧ R.RR w' (fun k => W.heap.size ≤ k) v' rows ∧ Below W.heap.size W w' from by
            rw [ha]
            exact HRO.out W hW))
          have HBW := Lib.hid (HS4.out.jg.below.drew)
          have d1 : w5.drew.cell? ⟨px, 1, none⟩ = some (.int .i64 xn) := c1x
          have d4 : w5.drew.cell? ⟨px, 4, none⟩ = some (.slice xA xl.length xc) := c4
          clear hl0 hl1 hq hrows hel hlt2 hxl hqi HRO
          go_wp2_with fail
          clear c0 c1x c2 c3 c4
          go_region_held3 (fun W => W.cell? ⟨px, 1, none⟩ = some (.int .i64 xn) ∧ W.cell? ⟨px, 4, none⟩ = some (.slice xA xl.length xc)) (first | exact ⟨d1, d4⟩ | exact ⟨s1, s4⟩ | exact ⟨by assumption, by assumption⟩)
            ((first
              | (go_at_call 19; with_reducible refine (HA.out _).mono ?_; rintro r w6 ⟨rfl, rfl⟩)
              | (go_at_call 18; refine (HR2.out w5.drew HBW.out _ (by first | exact HQI.out | exact HQW.out)).mono ?_; rintro r w7 ⟨v7, rfl, hrr7, hb7⟩; have s1 : w7.cell? ⟨px, 1, none⟩ = some (.int .i64 xn) := (hb7.cell (R.block_lt d1)).trans d1; have s4 : w7.cell? ⟨px, 4, none⟩ = some (.slice xA xl.length xc) := (hb7.cell (R.block_lt d4)).trans d4)))
          have HS7 := Lib.hid ((HS4.out.keep (Below.refl _ _).drew).keep hb7)
          have HRR := Lib.hid (hrr7.mono (G' := fun k => ¬ J.Mut bj bm vm FR k ∧ k ≠ bf) fun k _ hk => HS4.out.lt k hk)
          clear d1 d4 s1 s4 hrr7 hb7
          go_wp2_with fail
          refine (J.greplaceS HS7.out.jg HTB.out HK.out.1 (by omega) HRR.out (fun k hk => hk.1) (by have := HRW.out.1; omega) HRW.out.2).mono ?_
          intro r w8 hp
          obtain ⟨e8, m8, s8, FR8, ws8, rfl, hrr, hok8, hs8⟩ := HS7.out.store HRR.out hp
          have HS8 := Lib.hid (And.intro hrr (And.intro hok8 hs8))
          clear hp hrr hok8 hs8
          go_wp2_with fail
          refine (J.store_any HS8.out.2.2.jg.jj.pj.pm HS8.out.2.2.jg.jj.ok on fz HS8.out.1 (by have := HRW.out.1; omega) e8).mono ?_
          rintro r w9 ⟨rfl, rfl⟩
          have HOK9 := HS8.out.2.1
          rw [HON.out, ← HS8.out.2.2.jg.jj.len] at HOK9
          rw [HOK9]
          have HT := Lib.hid (HS8.out.2.2)
          rw [HON.out] at HT
          rw [HS8.out.2.2.jg.jj.len]
          clear HOK9
          generalize (if J.storeK _ on e8 = true then _ else _ : Value) = vn9 at HT ⊢
          go_wp2_with fail
          refine (J.grecords HT.out.jg hn9).mono ?_
          rintro r wt ⟨vt, rfl, hrr, hb⟩
          have HT2 := Lib.hid (HT.out.keep hb)
          have HSM := Lib.hid (J.rsame_any hrr HT2.out.now (by have := HT2.out.used hn9; omega))
          rw [decide_eq_true rfl] at HSM
          clear hrr hb
          go_wp2_with fail
          refine HSM.out.mono ?_
          rintro r wt2 ⟨rfl, q, hw⟩
          have HT3 := Lib.hid (HT2.out.drewN q)
          rw [← hw] at HT3
          clear hw HSM
          go_wp2_with fail
          refine (J.gfree HT3.out.jg hn9).mono ?_
          rintro r wt3 ⟨rfl, q2, hw⟩
          have HT4 := Lib.hid (HT3.out.drewN q2)
          rw [← hw] at HT4
          have HFR := Lib.hid (J.rfree_any n (by omega) HT4.out.now (by have := HT4.out.used hn9; omega))
          have HOP := Lib.hid (J.gopens HT4.out.jg HTB.out HK.out.1 hn9 HT4.out.now)
          rw [decide_eq_true rfl] at HOP
          clear hw
          generalize J.freeL n _ = fr at HFR ⊢
          go_wp2_with fail
          refine HFR.out.mono ?_
          rintro r wt4 ⟨rfl, rfl⟩
          go_wp2_with fail
          refine HOP.out.mono ?_
          rintro r wt5 ⟨rfl, hb⟩
          have HT5 := Lib.hid (HT4.out.keep hb)
          clear hb
          go_wp2_with fail
          go_roundg (gk - 1)
          case measure => have := HGG.out; omega
          case rel => exact ⟨k + 1, m8, s8, FR8, ws8, bj, bf, fs, fz, by have := HGG.out; omega, by omega, by go_num, rfl, rfl, rfl, HT5.out.more (by omega)⟩
        by_cases hk2 : kd = 2
        · subst hk2
          obtain ⟨l, hl0, hlm⟩ := H.around_nat xn (m := 80) (by decide)
          have hl1 : H.around xn 80 = (l : Int) := hl0
          have HA := Lib.hid (fun W => H.around_any xn 80 HXO.out.n.1 HXO.out.n.2 (by decide) (by decide) W)
          rw [hl1] at HA
          clear hl0 hl1
          go_wp2_with fail
          refine (HA.out _).mono ?_
          rintro r w6 ⟨rfl, rfl⟩
          go_wp2_with fail
          refine (J.gfuse HS4.out.jg (l : Int) (by omega)).mono ?_
          rintro r w7 ⟨rfl, hg7, hs7⟩
          have HT := Lib.hid (HS4.out.mem (fz' := true) hg7 hs7 (fun a ha hc => J.clean_as hc (J.fuse_code m (l : Int))) (fun e => by cases e))
          clear hg7 hs7 c0 c1x c2 c3 c4
          go_wp2_with fail
          refine (J.grecords HT.out.jg hn9).mono ?_
          rintro r wt ⟨vt, rfl, hrr, hb⟩
          have HT2 := Lib.hid (HT.out.keep hb)
          have HSM := Lib.hid (J.rsame_any hrr HT2.out.now (by have := HT2.out.used hn9; omega))
          rw [decide_eq_true rfl] at HSM
          clear hrr hb
          go_wp2_with fail
          refine HSM.out.mono ?_
          rintro r wt2 ⟨rfl, q, hw⟩
          have HT3 := Lib.hid (HT2.out.drewN q)
          rw [← hw] at HT3
          clear hw HSM
          go_wp2_with fail
          refine (J.gfree HT3.out.jg hn9).mono ?_
          rintro r wt3 ⟨rfl, q2, hw⟩
          have HT4 := Lib.hid (HT3.out.drewN q2)
          rw [← hw] at HT4
          have HFR := Lib.hid (J.rfree_any n (by omega) HT4.out.now (by have := HT4.out.used hn9; omega))
          have HOP := Lib.hid (J.gopens HT4.out.jg HTB.out HK.out.1 hn9 HT4.out.now)
          rw [decide_eq_true rfl] at HOP
          clear hw
          generalize J.freeL n _ = fr at HFR ⊢
          go_wp2_with fail
          refine HFR.out.mono ?_
          rintro r wt4 ⟨rfl, rfl⟩
          go_wp2_with fail
          refine HOP.out.mono ?_
          rintro r wt5 ⟨rfl, hb⟩
          have HT5 := Lib.hid (HT4.out.keep hb)
          clear hb
          go_wp2_with fail
          go_roundg (gk - 1)
          case measure => have := HGG.out; omega
          case rel => exact ⟨k + 1, _, s, FR, ws, bj, bf, fs, true, by have := HGG.out; omega, by omega, by go_num, rfl, rfl, rfl, HT5.out.more (by omega)⟩
        by_cases hk3 : kd = 3
        · subst hk3
          go_wp2_with fail
          refine (J.greset HS4.out.jg).mono ?_
          rintro r w7 ⟨rfl, hg7, hs7⟩
          have HT := Lib.hid (HS4.out.mem (fz' := false) hg7 hs7 (fun a ha hc => J.clean_as hc (J.reset_code m)) (fun _ => ⟨rfl, rfl⟩))
          clear hg7 hs7 c0 c1x c2 c3 c4
          go_wp2_with fail
          refine (J.grecords HT.out.jg hn9).mono ?_
          rintro r wt ⟨vt, rfl, hrr, hb⟩
          have HT2 := Lib.hid (HT.out.keep hb)
          have HSM := Lib.hid (J.rsame_any hrr HT2.out.now (by have := HT2.out.used hn9; omega))
          rw [decide_eq_true rfl] at HSM
          clear hrr hb
          go_wp2_with fail
          refine HSM.out.mono ?_
          rintro r wt2 ⟨rfl, q, hw⟩
          have HT3 := Lib.hid (HT2.out.drewN q)
          rw [← hw] at HT3
          clear hw HSM
          go_wp2_with fail
          refine (J.gfree HT3.out.jg hn9).mono ?_
          rintro r wt3 ⟨rfl, q2, hw⟩
          have HT4 := Lib.hid (HT3.out.drewN q2)
          rw [← hw] at HT4
          have HFR := Lib.hid (J.rfree_any n (by omega) HT4.out.now (by have := HT4.out.used hn9; omega))
          have HOP := Lib.hid (J.gopens HT4.out.jg HTB.out HK.out.1 hn9 HT4.out.now)
          rw [decide_eq_true rfl] at HOP
          clear hw
          generalize J.freeL n _ = fr at HFR ⊢
          go_wp2_with fail
          refine HFR.out.mono ?_
          rintro r wt4 ⟨rfl, rfl⟩
          go_wp2_with fail
          refine HOP.out.mono ?_
          rintro r wt5 ⟨rfl, hb⟩
          have HT5 := Lib.hid (HT4.out.keep hb)
          clear hb
          go_wp2_with fail
          go_roundg (gk - 1)
          case measure => have := HGG.out; omega
          case rel => exact ⟨k + 1, _, s, FR, ws, bj, bf, fs, false, by have := HGG.out; omega, by omega, by go_num, rfl, rfl, rfl, HT5.out.more (by omega)⟩
        by_cases hk4 : kd = 4
        · subst hk4
          go_wp2_with fail
          refine (J.greset HS4.out.jg).mono ?_
          rintro r w7 ⟨rfl, hg7, hs7⟩
          have HT0 := Lib.hid (HS4.out.mem (fz' := false) hg7 hs7 (fun a ha hc => J.clean_as hc (J.reset_code m)) (fun _ => ⟨rfl, rfl⟩))
          clear hg7 hs7 c0 c1x c2 c3 c4
          go_wp2_with fail
          refine (J.popen_any HT0.out.jg.jj.pj.pm HT0.out.jg.jj.ok (HT0.out.jg.tab HTB.out) (by rw [HT0.out.jg.jj.len]; exact HK.out.1) ws s HT0.out.jg.near.weak (by rw [HT0.out.jg.jj.len]; exact HT0.out.jg.jj.lay)).mono ?_
          intro r w8 hp
          obtain ⟨bk, sk, FK, rfl, hsk⟩ := HT0.out.open hp
          have HT := Lib.hid hsk
          clear hp hsk
          go_wp2_with fail
          refine (J.grecords HT.out.jg hn9).mono ?_
          rintro r wt ⟨vt, rfl, hrr, hb⟩
          have HT2 := Lib.hid (HT.out.keep hb)
          have HSM := Lib.hid (J.rsame_any hrr HT2.out.now (by have := HT2.out.used hn9; omega))
          rw [decide_eq_true rfl] at HSM
          clear hrr hb
          go_wp2_with fail
          refine HSM.out.mono ?_
          rintro r wt2 ⟨rfl, q, hw⟩
          have HT3 := Lib.hid (HT2.out.drewN q)
          rw [← hw] at HT3
          clear hw HSM
          go_wp2_with fail
          refine (J.gfree HT3.out.jg hn9).mono ?_
          rintro r wt3 ⟨rfl, q2, hw⟩
          have HT4 := Lib.hid (HT3.out.drewN q2)
          rw [← hw] at HT4
          have HFR := Lib.hid (J.rfree_any n (by omega) HT4.out.now (by have := HT4.out.used hn9; omega))
          have HOP := Lib.hid (J.gopens HT4.out.jg HTB.out HK.out.1 hn9 HT4.out.now)
          rw [decide_eq_true rfl] at HOP
          clear hw
          generalize J.freeL n _ = fr at HFR ⊢
          go_wp2_with fail
          refine HFR.out.mono ?_
          rintro r wt4 ⟨rfl, rfl⟩
          go_wp2_with fail
          refine HOP.out.mono ?_
          rintro r wt5 ⟨rfl, hb⟩
          have HT5 := Lib.hid (HT4.out.keep hb)
          clear hb
          go_wp2_with fail
          go_roundg (gk - 1)
          case measure => have := HGG.out; omega
          case rel => exact ⟨k + 1, _, sk, FK, ws, bk, bf, fs, false, by have := HGG.out; omega, by omega, by go_num, rfl, rfl, rfl, HT5.out.more (by omega)⟩
        by_cases hk5 : kd = 5
        · subst hk5
          have hnp : (0 : Int) < (n : Int) := by have := HK.out.1; omega
          obtain ⟨ha0, han⟩ : 0 ≤ H.around xa (n : Int) ∧ H.around xa (n : Int) < n := H.around_lt xa (by omega)
          obtain ⟨p, hp⟩ : ∃ p : Nat, H.around xa (n : Int) = (p : Int) := ⟨(H.around xa (n : Int)).toNat, by omega⟩
          have HAP := Lib.hid (fun W => H.around_any xa (n : Int) HXO.out.at_.1 HXO.out.at_.2 (by omega) (by omega) W)
          rw [hp] at HAP
          have hpn : p < n := by omega
          obtain ⟨b, hb⟩ : ∃ b, fs[p]? = some b := ⟨_, List.getElem?_eq_getElem (by rw [HS4.out.fl.len]; exact hpn)⟩
          have cf := H.blk_cell HS4.out.fl.blk p
          rw [List.getElem?_toArray, List.getElem?_map, hb] at cf
          have cf' : w5.cell? ⟨bf, p, none⟩ = some (.bool b) := cf
          have HPB := Lib.hid (And.intro hpn hb)
          have hpi : (p : Int) < (n : Int) := by omega
          have hp0 : (0 : Int) ≤ (p : Int) := by omega
          obtain ⟨l, hl0, hlm⟩ := H.around_nat xn (m := 39) (by decide)
          have hl1 : H.around xn 39 = (l : Int) := hl0
          have HA := Lib.hid (fun W => H.around_any xn 39 HXO.out.n.1 HXO.out.n.2 (by decide) (by decide) W)
          rw [hl1] at HA
          clear hl0 hl1
          clear ha0 han hp hb hnp cf hpn
          go_wp2_with fail
          refine (HAP.out _).mono ?_
          rintro r w6 ⟨rfl, rfl⟩
          cases b with
          | true =>
            go_wp2_with fail
            have HT := HS4
            clear c0 c1x c2 c3 c4 cf'
            go_wp2_with fail
            refine (J.grecords HT.out.jg hn9).mono ?_
            rintro r wt ⟨vt, rfl, hrr, hb⟩
            have HT2 := Lib.hid (HT.out.keep hb)
            have HSM := Lib.hid (J.rsame_any hrr HT2.out.now (by have := HT2.out.used hn9; omega))
            rw [decide_eq_true rfl] at HSM
            clear hrr hb
            go_wp2_with fail
            refine HSM.out.mono ?_
            rintro r wt2 ⟨rfl, q, hw⟩
            have HT3 := Lib.hid (HT2.out.drewN q)
            rw [← hw] at HT3
            clear hw HSM
            go_wp2_with fail
            refine (J.gfree HT3.out.jg hn9).mono ?_
            rintro r wt3 ⟨rfl, q2, hw⟩
            have HT4 := Lib.hid (HT3.out.drewN q2)
            rw [← hw] at HT4
            have HFR := Lib.hid (J.rfree_any n (by omega) HT4.out.now (by have := HT4.out.used hn9; omega))
            have HOP := Lib.hid (J.gopens HT4.out.jg HTB.out HK.out.1 hn9 HT4.out.now)
            rw [decide_eq_true rfl] at HOP
            clear hw
            generalize J.freeL n _ = fr at HFR ⊢
            go_wp2_with fail
            refine HFR.out.mono ?_
            rintro r wt4 ⟨rfl, rfl⟩
            go_wp2_with fail
            refine HOP.out.mono ?_
            rintro r wt5 ⟨rfl, hb⟩
            have HT5 := Lib.hid (HT4.out.keep hb)
            clear hb
            go_wp2_with fail
            go_roundg (gk - 1)
            case measure => have := HGG.out; omega
            case rel => exact ⟨k + 1, m, s, FR, ws, bj, bf, fs, fz, by have := HGG.out; omega, by omega, by go_num, rfl, rfl, rfl, HT5.out.more (by omega)⟩
          | false =>
            go_wp2_with fail
            refine (HA.out _).mono ?_
            rintro r w6 ⟨rfl, rfl⟩
            go_wp2_with fail
            refine (J.gflip HS4.out.jg HPB.out.1 (HS4.out.fl.clean p HPB.out.2)).mono ?_
            rintro r w7 ⟨e7, m7, rfl, hg7, hc7, ho7, hl7, hs7⟩
            have hblk7 := (hs7.block _ HS4.out.bf_lt fun e => HS4.out.ap.1 (.inr (.inl e))).trans HS4.out.fl.blk
            have cf7 := H.blk_cell hblk7 p
            rw [List.getElem?_toArray, List.getElem?_map, HPB.out.2] at cf7
            have cf7' : w7.cell? ⟨bf, p, none⟩ = some (.bool false) := cf7
            have fz7 := H.blk_frozen hblk7 p
            have HT := Lib.hid (HS4.out.flip (a := p) hg7 hs7 hc7 ho7 hl7)
            clear hg7 hc7 ho7 hl7 hs7 hblk7 c0 c1x c2 c3 c4 cf7 cf'
            go_wp2_with fail
            clear cf7' fz7
            go_wp2_with fail
            refine (J.grecords HT.out.jg hn9).mono ?_
            rintro r wt ⟨vt, rfl, hrr, hb⟩
            have HT2 := Lib.hid (HT.out.keep hb)
            have HSM := Lib.hid (J.rsame_any hrr HT2.out.now (by have := HT2.out.used hn9; omega))
            rw [decide_eq_true rfl] at HSM
            clear hrr hb
            go_wp2_with fail
            refine HSM.out.mono ?_
            rintro r wt2 ⟨rfl, q, hw⟩
            have HT3 := Lib.hid (HT2.out.drewN q)
            rw [← hw] at HT3
            clear hw HSM
            go_wp2_with fail
            refine (J.gfree HT3.out.jg hn9).mono ?_
            rintro r wt3 ⟨rfl, q2, hw⟩
            have HT4 := Lib.hid (HT3.out.drewN q2)
            rw [← hw] at HT4
            have HFR := Lib.hid (J.rfree_any n (by omega) HT4.out.now (by have := HT4.out.used hn9; omega))
            have HOP := Lib.hid (J.gopens HT4.out.jg HTB.out HK.out.1 hn9 HT4.out.now)
            rw [decide_eq_true rfl] at HOP
            clear hw
            generalize J.freeL n _ = fr at HFR ⊢
            go_wp2_with fail
            refine HFR.out.mono ?_
            rintro r wt4 ⟨rfl, rfl⟩
            go_wp2_with fail
            refine HOP.out.mono ?_
            rintro r wt5 ⟨rfl, hb⟩
            have HT5 := Lib.hid (HT4.out.keep hb)
            clear hb
            go_wp2_with fail
            go_roundg (gk - 1)
            case measure => have := HGG.out; omega
            case rel => exact ⟨k + 1, m7, s, FR, ws, bj, bf, _, fz, by have := HGG.out; omega, by omega, by go_num, rfl, rfl, rfl, HT5.out.more (by omega)⟩
        go_wp2_with fail
        refine (J.gscrub HS4.out.jg HTB.out).mono ?_
        rintro r w7 ⟨v7, m7, rfl, hg7, hs7, ho7, hl7, hoff, hcl⟩
        have hpw : fz = false → m7.off = false ∧ m7.left = 0 := fun e => by rw [ho7, hl7]; exact HS4.out.pw e
        cases on with
        | true =>
          have hmf : m.off = false := by have := HON.out; revert this; cases m.off <;> simp
          have HT0 := Lib.hid (HS4.out.mem (fz' := fz) hg7 hs7 (fun a ha _ => hcl hmf a ha) hpw)
          have HT := Lib.hid (HT0.out.made (fun a ha => hcl hmf a ha))
          have hmk := HMK.out w7
          rw [hz1, Int.toNat_natCast, Nat.mul_one] at hmk
          clear hg7 hs7 ho7 hl7 hoff hcl hpw c0 c1x c2 c3 c4 hmf
          go_wp2_with fail
          clear hmk
          go_wp2_with fail
          refine (J.grecords HT.out.jg hn9).mono ?_
          rintro r wt ⟨vt, rfl, hrr, hb⟩
          have HT2 := Lib.hid (HT.out.keep hb)
          have HSM := Lib.hid (J.rsame_any hrr HT2.out.now (by have := HT2.out.used hn9; omega))
          rw [decide_eq_true rfl] at HSM
          clear hrr hb
          go_wp2_with fail
          refine HSM.out.mono ?_
          rintro r wt2 ⟨rfl, q, hw⟩
          have HT3 := Lib.hid (HT2.out.drewN q)
          rw [← hw] at HT3
          clear hw HSM
          go_wp2_with fail
          refine (J.gfree HT3.out.jg hn9).mono ?_
          rintro r wt3 ⟨rfl, q2, hw⟩
          have HT4 := Lib.hid (HT3.out.drewN q2)
          rw [← hw] at HT4
          have HFR := Lib.hid (J.rfree_any n (by omega) HT4.out.now (by have := HT4.out.used hn9; omega))
          have HOP := Lib.hid (J.gopens HT4.out.jg HTB.out HK.out.1 hn9 HT4.out.now)
          rw [decide_eq_true rfl] at HOP
          clear hw
          generalize J.freeL n _ = fr at HFR ⊢
          go_wp2_with fail
          refine HFR.out.mono ?_
          rintro r wt4 ⟨rfl, rfl⟩
          go_wp2_with fail
          refine HOP.out.mono ?_
          rintro r wt5 ⟨rfl, hb⟩
          have HT5 := Lib.hid (HT4.out.keep hb)
          clear hb
          go_wp2_with fail
          go_roundg (gk - 1)
          case measure => have := HGG.out; omega
          case rel => exact ⟨k + 1, m7, s, FR, ws, bj, _, _, fz, by have := HGG.out; omega, by omega, by go_num, rfl, rfl, rfl, HT5.out.more (by omega)⟩
        | false =>
          have hmf : m.off = true := by have := HON.out; revert this; cases m.off <;> simp
          have HT := Lib.hid (HS4.out.mem (fz' := fz) hg7 hs7 (fun a ha hc => by rw [hoff hmf]; exact hc) hpw)
          clear hg7 hs7 ho7 hl7 hoff hcl hpw c0 c1x c2 c3 c4 hmf
          go_wp2_with fail
          refine (J.grecords HT.out.jg hn9).mono ?_
          rintro r wt ⟨vt, rfl, hrr, hb⟩
          have HT2 := Lib.hid (HT.out.keep hb)
          have HSM := Lib.hid (J.rsame_any hrr HT2.out.now (by have := HT2.out.used hn9; omega))
          rw [decide_eq_true rfl] at HSM
          clear hrr hb
          go_wp2_with fail
          refine HSM.out.mono ?_
          rintro r wt2 ⟨rfl, q, hw⟩
          have HT3 := Lib.hid (HT2.out.drewN q)
          rw [← hw] at HT3
          clear hw HSM
          go_wp2_with fail
          refine (J.gfree HT3.out.jg hn9).mono ?_
          rintro r wt3 ⟨rfl, q2, hw⟩
          have HT4 := Lib.hid (HT3.out.drewN q2)
          rw [← hw] at HT4
          have HFR := Lib.hid (J.rfree_any n (by omega) HT4.out.now (by have := HT4.out.used hn9; omega))
          have HOP := Lib.hid (J.gopens HT4.out.jg HTB.out HK.out.1 hn9 HT4.out.now)
          rw [decide_eq_true rfl] at HOP
          clear hw
          generalize J.freeL n _ = fr at HFR ⊢
          go_wp2_with fail
          refine HFR.out.mono ?_
          rintro r wt4 ⟨rfl, rfl⟩
          go_wp2_with fail
          refine HOP.out.mono ?_
          rintro r wt5 ⟨rfl, hb⟩
          have HT5 := Lib.hid (HT4.out.keep hb)
          clear hb
          go_wp2_with fail
          go_roundg (gk - 1)
          case measure => have := HGG.out; omega
          case rel => exact ⟨k + 1, m7, s, FR, ws, bj, bf, fs, fz, by have := HGG.out; omega, by omega, by go_num, rfl, rfl, rfl, HT5.out.more (by omega)⟩
      · have hki4 : ¬ (k : Int) < 40 := by omega
        go_wp2_with fail
        refine (J.glives HS.out.jg.below HTB.out).mono ?_
        rintro r we ⟨rfl, hb⟩
        have HBE := Lib.hid hb
        clear hb
        go_wp2_with fail
        go_ret
        exact ⟨rfl, HBE.out⟩
    · have hki : ¬ (k : Int) < (n1 : Int) := by omega
      go_wp2_with fail
      refine (J.glives HS.out.jg.below HTB.out).mono ?_
      rintro r we ⟨rfl, hb⟩
      have HBE := Lib.hid hb
      clear hb
      go_wp2_with fail
      go_ret
      exact ⟨rfl, HBE.out⟩

theorem reads (os : Os) {H0 : Type} (enc : TypeId × Value → H0) : ∃ places, DataW.whole enc Tryd.prog ((Go.Proofs.YtnoohhpajoaaoaaDoor.E.laidWorld os).forCall (fun _ _ => 0) ⟨#[], #[.int .i64 0, .slice none 0 0], []⟩).memory Tryd.f3.params.toList Rows.journalScriptSpec.vars false (#[.int .i64 0, .slice none 0 0] : Array Value).toList 8 = some ([.lit (.int .i64 0), .nil], [], places) :=
  ⟨[], by kernel_rfl⟩
set_option maxRecDepth 100000 in
theorem lifted (os : Os) (started : os.Started) (H0 : Type) (enc : TypeId × Value → H0) (F0 : Stop.Interp) :
    ReturnsInHanded {} Tryd.checked os 3 .any ((OpenSpec.ofChange Rows.journalScriptSpec).preRow enc Tryd.prog Tryd.f3 Rows.journalScriptRow.domain false Rows.journalScriptRow.laid) (((OpenSpec.ofChange Rows.journalScriptSpec).at F0).post enc Tryd.prog Tryd.f3 false true false false) := by
  obtain ⟨places, hx⟩ := reads os enc
  refine returnsInHanded_of_row (C := Tryd.checked) (s := (OpenSpec.ofChange Rows.journalScriptSpec)) Go.Proofs.YtnoohhpajoaaoaaDoor.O.own started (by kernel_rfl) Tryd.func3
    (witness_row_at (enc := enc) (C := Tryd.checked) false (Go.Proofs.YtnoohhpajoaaoaaDoor.E.laidWorld os) #[.int .i64 0, .slice none 0 0] rfl (by kernel_rfl) (by kernel_rfl) (by kernel_rfl)
      (OpenSpec.preRow_of_cond 8 hx (by kernel_rfl) (fun k hk => by cases hk) (by kernel_rfl) (Go.Proofs.YtnoohhpajoaaoaaDoor.E.laid_met os _))) ?_
  intro W base args ds gs before hval0 hW _ hk0 hsz0 hL _ _
  have hsz : (DataW.weightsEach Tryd.prog (Tryd.f3.params.toList ++ (OpenSpec.ofChange Rows.journalScriptSpec).bare.plain.varTypes Tryd.prog) (ds ++ gs)).all (· ≤ reachBytes) = true := hsz0
  clear hsz0
  have hval : ∀ (j : Nat) t v, Tryd.f3.params[j]? = some t → args[j]? = some v → Value.okWide Tryd.prog W .any base t v := hval0
  have hW' := hW
  obtain ⟨p, q, hA0, hV, rfl, hfz, hnd⟩ := hW
  have hA : DataW.TrodAll enc Tryd.prog W 0 (fun _ => true) true Tryd.f3.params.toList args.toList ds p := hA0
  rw [Tryd.params3] at hA hval hsz
  obtain ⟨v0, vs0, d0, ds0, p0, q0, hargs, rfl, rfl, h0, r0⟩ := trodAll_cons hA
  obtain ⟨v1, vs1, d1, ds1, p1, q1, rfl, rfl, rfl, h1, r1⟩ := trodAll_cons r0
  obtain ⟨rfl, rfl, rfl⟩ := trodAll_nil r1
  obtain rfl : args = #[v0, v1] := by cases args; simp_all
  obtain ⟨rfl, rfl⟩ := trodVars_none hV
  obtain ⟨a0, rfl, rfl, rfl, w0⟩ := open_int Tryd.underlying3 (hval 0 3 v0 rfl rfl) h0
  obtain ⟨a1, n1, c1, rfl⟩ := okWide_slice Tryd.underlying22 (hval 1 22 v1 rfl rfl)
  have k1 := h1
  have lt1 : ∀ x ∈ p1, x.block < W.heap.size := by obtain ⟨m, hm⟩ := k1; exact DataW.trod_lt m _ _ _ hm
  obtain ⟨z1, l1, cp1, cq1, nz1, rd1, ok1⟩ := Go.Proofs.YtnoohhpajoaaoaaDoor.J.open_Scs h1
  clear hA0 hval0
  have tb := Go.Proofs.YtnoohhpajoaaoaaDoor.E.tab_of_laid hL
  refine (walk a0 a1 n1 c1 z1 W tb w0 l1 ⟨cp1, cq1⟩ nz1 rd1 ok1).mono fun e W' ⟨he, bel⟩ => ?_
  subst he
  exact ⟨_, rfl, _, _, _, [], _, [], hW', trodAll_mk1 (shut_bool Tryd.underlying4 _), (trodAll_cons_mk (shut_int Tryd.underlying3 w0) (trodAll_cons_mk (Below.trod Go.Proofs.YtnoohhpajoaaoaaDoor.O.laidOut (by kernel_rfl) (of_decide_eq_true (by kernel_rfl)) k1 bel lt1) trodAll_mk0)), rfl, bel.frame _, fun h => by cases h⟩

theorem said : Rows.JournalScriptSaid :=
  OpenClaim.holds_of_cond 3 Tryd.f3 rfl rfl rfl rfl rfl rfl rfl ⟨rfl, rfl, rfl, rfl, rfl⟩ rfl rfl rfl rfl rfl (by kernel_rfl) Tryd.func3 (by kernel_rfl)
    (of_decide_eq_true (by kernel_rfl)) (by unfold Func.isWrapper; first | (rw [if_pos (by decide +kernel)]; kernel_rfl) | (rw [if_neg (by decide +kernel)]; exact ⟨rfl, rfl⟩))
    (fun os started H0 enc _ F0 => by rw [OpenClaim.pre_eq_preRow]; exact lifted os started H0 enc F0)
theorem plain (f : FuncId) (fn : Func) (hf : Tryd.pinned.checked.prog.funcNamed "perigee/perigeelaw07.JournalScript" = some f) (hfn : Tryd.pinned.checked.prog.funcs[f]? = some fn) :
    false = Tryd.pinned.checked.prog.looks [] ∧ ∀ (j : Nat) t, fn.params[j]? = some t → Tryd.pinned.checked.prog.wantsStandIn t = false := by
  obtain rfl : f = 3 := Option.some.inj ((show Tryd.prog.funcNamed "perigee/perigeelaw07.JournalScript" = some 3 by kernel_rfl).symm.trans hf) |>.symm
  obtain rfl : fn = Tryd.f3 := (Option.some.inj (Tryd.func3.symm.trans hfn)).symm
  refine ⟨by kernel_rfl, fun j t ht => ?_⟩
  rw [Tryd.params3] at ht
  have hm : t ∈ [3, 22] := by simpa using Array.mem_of_getElem? ht
  have hall : ([3, 22].all fun u => !Tryd.prog.wantsStandIn u) = true := by kernel_rfl
  exact (show Tryd.prog.wantsStandIn t = false by simpa using List.all_eq_true.1 hall t hm)
/-- ████ THE CARD ████ -/
theorem proved : Rows.JournalScriptCardSaid :=
  Claim7.holds_tied_plain_at .later [] _ _ _ _ said (fun _ h => by cases h) (by kernel_rfl) (fun _ h => by cases h) journalScript_row_tie rfl ⟨rfl, rfl⟩ (by kernel_rfl) rfl plain (by kernel_rfl)
end Go.Proofs.YtnoohhpajoaaoaaDoor.journalScript
