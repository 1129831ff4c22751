/-
  perigeeref10's Table over lists of any length.
-/
import Derived.Test.YtobbnbelacncjaaPwTab
import Derived.Deep.DeepCutAuto
import Derived.Deep.LoopGhost
namespace Go.Proofs.Ytobbnbelacncjaa
open Go.RowKit
namespace Pw
open H
set_option linter.unusedVariables false
set_option linter.unusedSimpArgs false
set_option maxRecDepth 100000
set_option maxHeartbeats 8000000 in
theorem rtable9_any (l : List Int) (A : Option Addr) (cap B : Nat) (w : World) (hB : B ≤ w.heap.size) (hlen : l.length ≤ 9223372036854775807) (hl : ∀ n ∈ l, 0 ≤ n ∧ n < 65536) (hR : RdI w B .u16 A l) :
    Calls Try.prog 23 #[.slice A l.length cap] w fun e w' => ∃ v, e = .returned v ∧ w'.ownsRow w.heap.size 77 6 v (tabL l).length (flat6 (tabL l)) ∧ Below w.heap.size w w' := by
  obtain ⟨i0, hi, hz0, hz1, hz2⟩ := info_parts infoW
  have HR := Lib.hid hR
  have HGET : Hid (∀ (k : Nat), k < l.length → ∃ n, l[k]? = some n ∧ l[k]?.getD 0 = n ∧ 0 ≤ n ∧ n < 65536) := Lib.hid (fun k hk => ⟨l[k], List.getElem?_eq_getElem hk, by rw [List.getElem?_eq_getElem hk]; rfl, hl _ (List.getElem_mem hk)⟩)
  have HST : Hid (∀ (s : Tb) (q : Nat) (n : Int), l[q]? = some n → q < 30 → utl s n ≤ 1000 → tabT s ((l.take 30).drop q) = tabT (tstep s n) ((l.take 30).drop (q + 1))) := Lib.hid (fun s q n h hq hu => tab_step (by rw [List.getElem?_take, if_pos hq]; exact h) (by omega))
  have HSP : Hid (∀ (s : Tb) (q : Nat) (n : Int), l[q]? = some n → q < 30 → 1000 < utl s n → tabT s ((l.take 30).drop q) = s.out) := Lib.hid (fun s q n h hq hu => tab_stop (by rw [List.getElem?_take, if_pos hq]; exact h) hu)
  have HEN : Hid (∀ (s : Tb) (q : Nat), (l.length ≤ q ∨ 30 ≤ q) → tabT s ((l.take 30).drop q) = s.out) := Lib.hid (fun s q h => tab_end (by rw [List.length_take]; omega))
  have H0 : Hid (tabT tb0 ((l.take 30).drop 0) = tabL l) := Lib.hid rfl
  clear hR hl
  generalize hle : l.length = len at *
  have HLE := Lib.hid hle
  clear hle
  generalize tabL l = res at *
  go_enter Try.func23, Try.ntmps23
  go_upto_region 5 with fail
  have HZ0 := heap_top w (Obj.cells #[.int .i64 0, .int .i64 0] 75)
  go_loopg [3, 5, 6, 7] 30 (fun g o a la i wr => ∃ (q : Nat) (s : Tb), q + g = 30 ∧ q ≤ len ∧ i = .int .i64 (q : Nat) ∧ a = .int .i64 s.at_ ∧ la = .int .i64 s.last ∧ TbOk s ∧ s.out.length ≤ q ∧ Hid (tabT s ((l.take 30).drop q) = res) ∧ wr.ownsRow (w.heap.size + 1) 77 6 o s.out.length (flat6 s.out) ∧ wr.heap[w.heap.size]? = some (.cells #[.int .i64 s.e0, .int .i64 s.e1] 75 (0, 0)) ∧ Below w.heap.size w wr ∧ w.heap.size + 1 ≤ wr.heap.size)
  case atStart => exact ⟨0, tb0, rfl, Nat.zero_le _, rfl, rfl, rfl, ⟨by simp [tb0], by simp [tb0], by simp [tb0], by simp [tb0]⟩, by simp [tb0], H0, World.ownsRow_nil _ _ _ _, HZ0, bel1 _ _, by simp⟩
  case round =>
    clear HZ0
    obtain ⟨q, s, hg, hqn, rfl, rfl, rfl, hok, hol, HT, hO, hbx, hB2, hsz⟩ := hrel
    have BEL := Lib.hid hB2
    have HG := Lib.hid hg
    have HO := Lib.hid hO
    have HBX := Lib.hid hbx
    have HOK := Lib.hid hok
    have HSZ := Lib.hid hsz
    have hq30 : q ≤ 30 := by omega
    obtain ⟨A3, k3, rfl⟩ := own_shape6 hO
    clear hg hB2 hO hsz
    by_cases hlt : q < len
    · have hqi : (q : Int) < (len : Int) := by omega
      by_cases hlt2 : q < 30
      · have hqj : (q : Int) < 30 := by omega
        have HLT := Lib.hid (And.intro hlt hlt2)
        obtain ⟨n, hn, hd, hn0, hn1⟩ := HGET.out q hlt
        obtain ⟨ad, rfl, had, hc0⟩ := HR.out.below (BEL.out.mono hB) q (by rw [HLE.out]; exact hlt)
        rw [hd] at hc0
        have HN := Lib.hid hn
        have HNN := Lib.hid hn0
        have x0 : wr.cell? ⟨w.heap.size, 0, none⟩ = some (.int .i64 s.e0) := by rw [cell_obj hbx]; rfl
        have x1 : wr.cell? ⟨w.heap.size, 1, none⟩ = some (.int .i64 s.e1) := by rw [cell_obj hbx]; rfl
        have t1 : n.tdiv 256 = n / 256 := Int.tdiv_eq_ediv_of_nonneg hn0
        have t2 : (n / 256).tmod 2 = n / 256 % 2 := Int.tmod_eq_emod_of_nonneg (by omega)
        have t3 : n.tmod 8 = n % 8 := Int.tmod_eq_emod_of_nonneg hn0
        have t4 : n.tdiv 8 = n / 8 := Int.tdiv_eq_ediv_of_nonneg hn0
        have t5 : (n / 8).tmod 32 = n / 8 % 32 := Int.tmod_eq_emod_of_nonneg (by omega)
        have b1 := hok.e0
        have b2 := hok.e1
        have b3 := hok.at_
        have b4 := hok.last
        have m80 : 0 ≤ n % 8 ∧ n % 8 < 8 := by omega
        have m320 : 0 ≤ n / 8 % 32 ∧ n / 8 % 32 < 32 := by omega
        have hf0d : fr0 s n = max (s.at_ + n % 8) (if cr n = 0 then s.e0 else s.e1) := rfl
        have hcrd : cr n = n / 256 % 2 := rfl
        have hcr01 := cr_bd n
        obtain ⟨m32, hm32⟩ : ∃ m, n / 8 % 32 = m := ⟨_, rfl⟩
        have HM32 := Lib.hid hm32
        obtain ⟨m8, hm8⟩ : ∃ m, n % 8 = m := ⟨_, rfl⟩
        rw [hm32] at t5 m320
        rw [hm8] at t3 m80 hf0d
        clear hn hd had hlt hlt2 hok hbx hm32 hm8
        rcases hcr01 with hc | hc
        · have HCR := Lib.hid hc
          rw [hc] at hcrd hf0d
          rw [← hcrd] at t2
          obtain ⟨f0, hf0⟩ : ∃ f0, f0 = fr0 s n := ⟨_, rfl⟩
          have HF0 := Lib.hid hf0.symm
          rw [if_pos rfl] at hf0d
          have hif : (if s.at_ + m8 < s.e0 then s.e0 else s.at_ + m8) = f0 := by rw [hf0, hf0d]; split <;> omega
          have hfr : s.at_ ≤ f0 ∧ f0 ≤ 1008 := by rw [hf0, hf0d]; omega
          clear hf0 hf0d hcrd hc
          obtain ⟨f, hf⟩ : ∃ f, f = frm s n := ⟨_, rfl⟩
          have HFR : Hid (frm s n = f) := Lib.hid hf.symm
          have HFE : Hid (f = if f0 = s.at_ ∧ (0 : Int) ≤ s.last then f0 + 1 else f0) := Lib.hid (by rw [hf]; unfold frm; rw [HF0.out, HCR.out])
          have HUT : Hid (utl s n = f + 1 + m32) := Lib.hid (by unfold utl; rw [HFR.out, HM32.out])
          have hfb : 0 ≤ f ∧ f ≤ 1010 := by rw [HFE.out]; split <;> omega
          clear hf
          obtain ⟨bb, hbb⟩ : ∃ bb, bb = decide (f0 = s.at_ ∧ (0 : Int) ≤ s.last) := ⟨_, rfl⟩
          have HBB := Lib.hid hbb
          clear hbb
          go_upto_region 10 with fail
          go_cut [46] (fun vb wx => vb = .bool bb ∧ wr = wx)
          case first =>
            by_cases ha : f0 = s.at_
            · by_cases hc : (0 : Int) ≤ s.last
              · have hb : bb = true := by rw [HBB.out]; exact decide_eq_true ⟨ha, hc⟩
                have hab : (f0 == s.at_) = true := by rw [ha]; simp
                clear ha
                go_wp2_with fail
                go_meet
                exact ⟨by rw [hb], rfl⟩
              · have hb : bb = false := by rw [HBB.out]; exact decide_eq_false (fun h => hc h.2)
                have hab : (f0 == s.at_) = true := by rw [ha]; simp
                clear ha
                go_wp2_with fail
                go_meet
                exact ⟨by rw [hb], rfl⟩
            · have hb : bb = false := by rw [HBB.out]; exact decide_eq_false (fun h => ha h.1)
              have hab : (f0 == s.at_) = false := by simp [ha]
              clear ha
              go_wp2_with fail
              go_meet
              exact ⟨by rw [hb], rfl⟩
          case rest =>
            obtain ⟨rfl, rfl⟩ := hcut
            go_upto_if 46 with fail
            go_cut [10] (fun vf wx => vf = .int .i64 f ∧ wr = wx)
            case first =>
              rcases Bool.eq_false_or_eq_true bb with hb | hb
              · have hc : f = f0 + 1 := by rw [HFE.out, if_pos (of_decide_eq_true (HBB.out.symm.trans hb))]
                subst hb
                go_wp2_with fail
                go_meet
                exact ⟨by rw [hc], rfl⟩
              · have hc : f = f0 := by rw [HFE.out, if_neg (of_decide_eq_false (HBB.out.symm.trans hb))]
                subst hb
                go_wp2_with fail
                go_meet
                exact ⟨by rw [hc], rfl⟩
            case rest =>
              obtain ⟨rfl, rfl⟩ := hcut
              by_cases hu : 1000 < f + 1 + m32
              · have HU : Hid (1000 < utl s n) := Lib.hid (by rw [HUT.out]; exact hu)
                have HE := Lib.hid (HSP.out s q n HN.out HLT.out.2 HU.out)
                go_wp2_with fail
                go_ret
                exact ⟨_, rfl, by rw [← HT.out, HE.out]; exact own_baseS' HO.out (Nat.le_succ _), BEL.out⟩
              · have HU : Hid (utl s n ≤ 1000) := Lib.hid (by rw [HUT.out]; omega)
                have hu2 : f + 1 + m32 ≤ 1000 := by omega
                have HE := Lib.hid (HST.out s q n HN.out HLT.out.2 HU.out)
                go_wp2_with (at_builtin; refine wpList_append_new rfl (.tmp 58) (.tmp 63) 45 rfl (w.heap.size + 1) 77 i0 (.agg #[.int .i64 0, .int .i64 0, .int .i64 0, .int .i64 0, .int .i64 0, .int .i64 0]) 6 48 Try.underlying45 hi hz0 hz1 hz2 rfl (by decide) (.slice A3 s.out.length k3) s.out.length (flat6 s.out) rfl (ownsRow_below HO.out (bel1 wr _)) wr.heap.size 1 [.int .i64 3, .int .i64 0, .int .i64 0, .int .i64 f, .int .i64 (f + 1 + m32), .int .i64 0] rfl rfl (fun j u hu => by rw [cell_top]; rw [← hu]; simp) (by intro u hu; simp only [List.mem_cons, List.not_mem_nil, or_false] at hu; rcases hu with rfl | rfl | rfl | rfl | rfl | rfl <;> rfl) (by unfold maxLen; omega) (by omega) (by have := HSZ.out; simp; omega) ?_; intro v2 w7 ho2 hB7; have hbx7 := (heap_below hB7 (Nat.lt_succ_self _)).trans (heap_keep (bel1 wr _) HBX.out); have n0 : w7.cell? ⟨w.heap.size, 0, none⟩ = some (.int .i64 s.e0) := (by rw [cell_obj hbx7]; rfl); have n1 : w7.cell? ⟨w.heap.size, 1, none⟩ = some (.int .i64 s.e1) := (by rw [cell_obj hbx7]; rfl); have nf0 := frz_obj hbx7 0; have nf1 := frz_obj hbx7 1; have HO2 := Lib.hid ho2; have HB7 := Lib.hid hB7; have HBX7 := Lib.hid hbx7; clear ho2 hB7 hbx7)
                have HOK2 := Lib.hid (tstep_ok HOK.out HNN.out (by have := HU.out; omega))
                have HTS : Hid (tstep s n = ⟨s.out ++ [⟨3, 0, 0, f, f + 1 + m32, 0⟩], f + 1 + m32, s.e1, f, 0⟩) := Lib.hid (by unfold tstep win; rw [HUT.out, HFR.out, HCR.out]; simp)
                go_roundg (gk - 1)
                case measure => have := HG.out; have := HLT.out; omega
                case rel =>
                  refine ⟨q + 1, tstep s n, by have := HG.out; have := HLT.out; omega, by have := HLT.out; omega, by go_num, by rw [HTS.out], by rw [HTS.out], HOK2.out, by rw [HTS.out]; simp; omega, Lib.hid (by rw [← HE.out]; exact HT.out), ?_, ?_, ?_, ?_⟩
                  · rw [HTS.out]
                    have h := own_set6 (i := 0) (u := .int .i64 (f + 1 + m32)) HO2.out (Nat.lt_succ_self w.heap.size)
                    rw [flat6_snoc, List.length_append]
                    exact h
                  · rw [HTS.out]; exact hset (i := 0) (.int .i64 (f + 1 + m32)) HBX7.out
                  · exact ((BEL.out.trans ((bel1 wr _).mono BEL.out.size)).trans (HB7.out.mono (Nat.le_succ _))).setCell (p := ⟨w.heap.size, 0, none⟩) (Nat.le_refl _) _
                  · have h := HB7.out.size; have h2 := HSZ.out; simp at h ⊢; omega
        · have HCR := Lib.hid hc
          rw [hc] at hcrd hf0d
          rw [← hcrd] at t2
          obtain ⟨f0, hf0⟩ : ∃ f0, f0 = fr0 s n := ⟨_, rfl⟩
          have HF0 := Lib.hid hf0.symm
          rw [if_neg (by decide)] at hf0d
          have hif : (if s.at_ + m8 < s.e1 then s.e1 else s.at_ + m8) = f0 := by rw [hf0, hf0d]; split <;> omega
          have hfr : s.at_ ≤ f0 ∧ f0 ≤ 1008 := by rw [hf0, hf0d]; omega
          clear hf0 hf0d hcrd hc
          obtain ⟨f, hf⟩ : ∃ f, f = frm s n := ⟨_, rfl⟩
          have HFR : Hid (frm s n = f) := Lib.hid hf.symm
          have HFE : Hid (f = if f0 = s.at_ ∧ (1 : Int) ≤ s.last then f0 + 1 else f0) := Lib.hid (by rw [hf]; unfold frm; rw [HF0.out, HCR.out])
          have HUT : Hid (utl s n = f + 1 + m32) := Lib.hid (by unfold utl; rw [HFR.out, HM32.out])
          have hfb : 0 ≤ f ∧ f ≤ 1010 := by rw [HFE.out]; split <;> omega
          clear hf
          obtain ⟨bb, hbb⟩ : ∃ bb, bb = decide (f0 = s.at_ ∧ (1 : Int) ≤ s.last) := ⟨_, rfl⟩
          have HBB := Lib.hid hbb
          clear hbb
          go_upto_region 10 with fail
          go_cut [46] (fun vb wx => vb = .bool bb ∧ wr = wx)
          case first =>
            by_cases ha : f0 = s.at_
            · by_cases hc : (1 : Int) ≤ s.last
              · have hb : bb = true := by rw [HBB.out]; exact decide_eq_true ⟨ha, hc⟩
                have hab : (f0 == s.at_) = true := by rw [ha]; simp
                clear ha
                go_wp2_with fail
                go_meet
                exact ⟨by rw [hb], rfl⟩
              · have hb : bb = false := by rw [HBB.out]; exact decide_eq_false (fun h => hc h.2)
                have hab : (f0 == s.at_) = true := by rw [ha]; simp
                clear ha
                go_wp2_with fail
                go_meet
                exact ⟨by rw [hb], rfl⟩
            · have hb : bb = false := by rw [HBB.out]; exact decide_eq_false (fun h => ha h.1)
              have hab : (f0 == s.at_) = false := by simp [ha]
              clear ha
              go_wp2_with fail
              go_meet
              exact ⟨by rw [hb], rfl⟩
          case rest =>
            obtain ⟨rfl, rfl⟩ := hcut
            go_upto_if 46 with fail
            go_cut [10] (fun vf wx => vf = .int .i64 f ∧ wr = wx)
            case first =>
              rcases Bool.eq_false_or_eq_true bb with hb | hb
              · have hc : f = f0 + 1 := by rw [HFE.out, if_pos (of_decide_eq_true (HBB.out.symm.trans hb))]
                subst hb
                go_wp2_with fail
                go_meet
                exact ⟨by rw [hc], rfl⟩
              · have hc : f = f0 := by rw [HFE.out, if_neg (of_decide_eq_false (HBB.out.symm.trans hb))]
                subst hb
                go_wp2_with fail
                go_meet
                exact ⟨by rw [hc], rfl⟩
            case rest =>
              obtain ⟨rfl, rfl⟩ := hcut
              by_cases hu : 1000 < f + 1 + m32
              · have HU : Hid (1000 < utl s n) := Lib.hid (by rw [HUT.out]; exact hu)
                have HE := Lib.hid (HSP.out s q n HN.out HLT.out.2 HU.out)
                go_wp2_with fail
                go_ret
                exact ⟨_, rfl, by rw [← HT.out, HE.out]; exact own_baseS' HO.out (Nat.le_succ _), BEL.out⟩
              · have HU : Hid (utl s n ≤ 1000) := Lib.hid (by rw [HUT.out]; omega)
                have hu2 : f + 1 + m32 ≤ 1000 := by omega
                have HE := Lib.hid (HST.out s q n HN.out HLT.out.2 HU.out)
                go_wp2_with (at_builtin; refine wpList_append_new rfl (.tmp 58) (.tmp 63) 45 rfl (w.heap.size + 1) 77 i0 (.agg #[.int .i64 0, .int .i64 0, .int .i64 0, .int .i64 0, .int .i64 0, .int .i64 0]) 6 48 Try.underlying45 hi hz0 hz1 hz2 rfl (by decide) (.slice A3 s.out.length k3) s.out.length (flat6 s.out) rfl (ownsRow_below HO.out (bel1 wr _)) wr.heap.size 1 [.int .i64 3, .int .i64 1, .int .i64 0, .int .i64 f, .int .i64 (f + 1 + m32), .int .i64 0] rfl rfl (fun j u hu => by rw [cell_top]; rw [← hu]; simp) (by intro u hu; simp only [List.mem_cons, List.not_mem_nil, or_false] at hu; rcases hu with rfl | rfl | rfl | rfl | rfl | rfl <;> rfl) (by unfold maxLen; omega) (by omega) (by have := HSZ.out; simp; omega) ?_; intro v2 w7 ho2 hB7; have hbx7 := (heap_below hB7 (Nat.lt_succ_self _)).trans (heap_keep (bel1 wr _) HBX.out); have n0 : w7.cell? ⟨w.heap.size, 0, none⟩ = some (.int .i64 s.e0) := (by rw [cell_obj hbx7]; rfl); have n1 : w7.cell? ⟨w.heap.size, 1, none⟩ = some (.int .i64 s.e1) := (by rw [cell_obj hbx7]; rfl); have nf0 := frz_obj hbx7 0; have nf1 := frz_obj hbx7 1; have HO2 := Lib.hid ho2; have HB7 := Lib.hid hB7; have HBX7 := Lib.hid hbx7; clear ho2 hB7 hbx7)
                have HOK2 := Lib.hid (tstep_ok HOK.out HNN.out (by have := HU.out; omega))
                have HTS : Hid (tstep s n = ⟨s.out ++ [⟨3, 1, 0, f, f + 1 + m32, 0⟩], s.e0, f + 1 + m32, f, 1⟩) := Lib.hid (by unfold tstep win; rw [HUT.out, HFR.out, HCR.out]; simp)
                go_roundg (gk - 1)
                case measure => have := HG.out; have := HLT.out; omega
                case rel =>
                  refine ⟨q + 1, tstep s n, by have := HG.out; have := HLT.out; omega, by have := HLT.out; omega, by go_num, by rw [HTS.out], by rw [HTS.out], HOK2.out, by rw [HTS.out]; simp; omega, Lib.hid (by rw [← HE.out]; exact HT.out), ?_, ?_, ?_, ?_⟩
                  · rw [HTS.out]
                    have h := own_set6 (i := 1) (u := .int .i64 (f + 1 + m32)) HO2.out (Nat.lt_succ_self w.heap.size)
                    rw [flat6_snoc, List.length_append]
                    exact h
                  · rw [HTS.out]; exact hset (i := 1) (.int .i64 (f + 1 + m32)) HBX7.out
                  · exact ((BEL.out.trans ((bel1 wr _).mono BEL.out.size)).trans (HB7.out.mono (Nat.le_succ _))).setCell (p := ⟨w.heap.size, 1, none⟩) (Nat.le_refl _) _
                  · have h := HB7.out.size; have h2 := HSZ.out; simp at h ⊢; omega
      · have hqj : ¬ (q : Int) < 30 := by omega
        have HE := Lib.hid (HEN.out s q (.inr (by omega)))
        go_wp2_with fail
        go_ret
        exact ⟨_, rfl, by rw [← HT.out, HE.out]; exact own_baseS' HO.out (Nat.le_succ _), BEL.out⟩
    · have hqi : ¬ (q : Int) < (len : Int) := by omega
      have HE := Lib.hid (HEN.out s q (.inl (by omega)))
      go_wp2_with fail
      go_ret
      exact ⟨_, rfl, by rw [← HT.out, HE.out]; exact own_baseS' HO.out (Nat.le_succ _), BEL.out⟩
end Pw
end Go.Proofs.Ytobbnbelacncjaa
