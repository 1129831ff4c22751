/-
  Contract of the specification of layer 6: Scrub.
-/
import Derived.Test.YtehpbjkacdmlaaaDoorMRef3
import Derived.Laws.Rows
import Derived.Laws.Tables
namespace Go.Proofs.YtehpbjkacdmlaaaDoor
open Go.RowKit
namespace M
open H
set_option linter.unusedVariables false
set_option maxRecDepth 100000
theorem RM.aside {w : World} {b : Nat} {v : Value} {m : Mem} (h : RM w b v m) {s : Nat} (hs : ¬ FT b v s) (i : Nat) (u : Value) : RM (w.setCell ⟨s, i, none⟩ u) b v m :=
  Obj1.as h fun k hk => Below.heap_setCell _ _ _ _ (by rintro rfl; exact hs hk)
/-- One result: a struct that lies in a block of its own. -/
theorem results_row1 {P : Program} {fn : Func} {p : Tmp} {ty : TypeId} (h : fn.results = #[.cell p ty]) (tmps : Array Value) (w : World) (g : Nat) (t : TypeId) (cs : Array Value) (fr : Nat × Nat) (d : TypeDesc)
    (hp : tmps.getD p undef = .pointer (some ⟨g, 0, none⟩)) (hg : w.heap[g]? = some (.cells cs t fr))
    (hu : P.underlying ty = some d) (hd : (match d with | .struct _ | .array _ _ => true | _ => false) = true) (hi : (P.info? ty).map (·.size) = some cs.size) :
    (results fn tmps).run P w = .ok (.agg cs) w := by
  have hp' : tmps[p]?.getD undef = .pointer (some ⟨g, 0, none⟩) := by simpa using hp
  simp [results, h, hp', asAddr, run_loadVar_row w g t ty cs fr d hg hu hd hi]
theorem turns_more {m : Mem} {n : Int} {k : Nat} (h : k < m.turns n) : m.off = false ∧ (k : Int) < n ∧ k < m.code.length := by
  unfold Mem.turns at h
  cases ho : m.off with
  | true => rw [ho] at h; simp at h
  | false =>
    rw [ho] at h
    simp at h
    exact ⟨rfl, by omega, by omega⟩
theorem turns_end {m : Mem} {n : Int} {k : Nat} (h : k = m.turns n) : m.off = true ∨ n ≤ (k : Int) ∨ m.code.length ≤ k := by
  unfold Mem.turns at h
  cases ho : m.off with
  | true => exact .inl rfl
  | false =>
    rw [ho] at h
    simp at h
    omega
theorem visit_one {m : Mem} (h : (E.dec (m.at m.next)).2 = 1) : m.visit = { m with code := m.code.set m.next (E.enc (E.dec (m.at m.next)).1), next := (m.next + 1) % m.code.length } := by unfold Mem.visit; rw [if_pos h]
theorem visit_other {m : Mem} (h : (E.dec (m.at m.next)).2 ≠ 1) : m.visit = { m with next := (m.next + 1) % m.code.length } := by unfold Mem.visit; rw [if_neg h]
/-- The next position, as it is reckoned. -/
theorem next_mod {x n : Nat} (hn : 0 < n) (hm : n ≤ 4096) (hx : x < n) : ((x : Int) + 1).tmod (n : Int) = (((x + 1) % n : Nat) : Int) := by
  rw [Int.tmod_eq_emod_of_nonneg (by omega)]; push_cast; rfl
/-- What Scrub leaves: the counts, and the memory behind the visits. -/
def ScrubPost (R : World → Nat → Value → Mem → Prop) (m : Mem) (n : Int) (b : Nat) (v : Value) (w : World) (r : Ending) (w' : World) : Prop :=
  r = .returned (.agg #[.int .i64 (m.turns n : Nat), .int .i64 (m.found 1 (m.turns n) : Nat), .int .i64 (m.found 2 (m.turns n) : Nat)]) ∧ R w' b v (m.scrub n) ∧ Save (FT b v) w w'
set_option maxHeartbeats 4000000 in
theorem rscrub_any {w : World} {b : Nat} {v : Value} {m : Mem} (h : RM w b v m) (hm : m.ok) (n : Int) :
    Calls Tryd.prog 35 #[.pointer (some ⟨b, 0, none⟩), .int .i64 n] w (ScrubPost RM m n b v w) := by
  obtain ⟨T, hT⟩ : ∃ T, m.turns n = T := ⟨_, rfl⟩
  have hTl : T ≤ m.code.length := by rw [← hT]; exact turns_le m n
  have hlt := blk_lt h.blk
  have hFT := Obj1.lt h
  have HM := Lib.hid hm
  have HT := Lib.hid hT
  have h0 : RM ((w.alloc (.cells #[.int .i64 0, .int .i64 0, .int .i64 0] 75)).alloc (.cells #[.int .i64 0, .int .i64 0, .int .i64 0] 75)) b v m := Obj1.keep h (((Below.refl _ _).alloc (Nat.le_refl _) _).alloc (by simp) _)
  have hs0 : Save (FT b v) w ((w.alloc (.cells #[.int .i64 0, .int .i64 0, .int .i64 0] 75)).alloc (.cells #[.int .i64 0, .int .i64 0, .int .i64 0] 75)) := ((Save.refl _ _).alloc _).alloc _
  have hb0 : ((w.alloc (.cells #[.int .i64 0, .int .i64 0, .int .i64 0] 75)).alloc (.cells #[.int .i64 0, .int .i64 0, .int .i64 0] 75)).heap[w.heap.size + 1]? = some (.cells #[.int .i64 0, .int .i64 0, .int .i64 0] 75 (0, 0)) := by
    have := heap_alloc_new (w.alloc (.cells #[.int .i64 0, .int .i64 0, .int .i64 0] 75)) (.cells #[.int .i64 0, .int .i64 0, .int .i64 0] 75)
    simpa using this
  have hr0 : ((w.alloc (.cells #[.int .i64 0, .int .i64 0, .int .i64 0] 75)).alloc (.cells #[.int .i64 0, .int .i64 0, .int .i64 0] 75)).heap[w.heap.size]? = some (.cells #[.int .i64 0, .int .i64 0, .int .i64 0] 75 (0, 0)) := by
    rw [((Below.refl _ (w.alloc (.cells #[.int .i64 0, .int .i64 0, .int .i64 0] 75))).alloc (Nat.le_refl _) _).block w.heap.size (by simp)]
    exact heap_alloc_new w _
  have H0 := Lib.hid (And.intro h0 (And.intro hs0 (And.intro hb0 hr0)))
  have HFT := Lib.hid hFT
  clear h hm hT h0 hs0 hb0 hr0 hFT
  go_enter Tryd.func35, Tryd.ntmps35
  go_wp2_with fail
  go_loopg [6, 7, 8] T (fun g i x y wr => ∃ k : Nat, k + g = T ∧ i = .int .i64 (k : Nat) ∧ RM wr b v (m.visits k) ∧ Save (FT b v) w wr ∧ w.heap.size + 1 < wr.heap.size ∧ wr.heap[w.heap.size + 1]? = some (.cells #[.int .i64 (k : Nat), .int .i64 (m.found 1 k : Nat), .int .i64 (m.found 2 k : Nat)] 75 (0, 0)) ∧ wr.heap[w.heap.size]? = some (.cells #[.int .i64 0, .int .i64 0, .int .i64 0] 75 (0, 0)))
  case atStart => exact ⟨0, Nat.zero_add _, rfl, H0.out.1, H0.out.2.1, by simp, H0.out.2.2.1, H0.out.2.2.2⟩
  case round =>
    obtain ⟨k, hg, rfl, hrm, hsv, hsz, hsb, hres⟩ := hrel
    have HG := Lib.hid hg
    have hkT : k ≤ T := by omega
    have hok := visits_ok HM.out k
    have hvl := visits_len m k
    have hvo := visits_off m k
    have HF1 : Hid (m.found 1 (k + 1) = m.found 1 k + (if (E.dec ((m.visits k).at (m.visits k).next)).2 = 1 then 1 else 0)) := Lib.hid rfl
    have HF2 : Hid (m.found 2 (k + 1) = m.found 2 k + (if (E.dec ((m.visits k).at (m.visits k).next)).2 = 2 then 1 else 0)) := Lib.hid rfl
    have HVS : Hid (m.visits (k + 1) = (m.visits k).visit) := Lib.hid rfl
    have hfl1 := found_le m 1 k
    have hfl2 := found_le m 2 k
    obtain ⟨mk, hmk⟩ : ∃ mk, m.visits k = mk := ⟨_, rfl⟩
    rw [hmk] at hrm hok hvl hvo HF1 HF2 HVS
    have HMS := Lib.hid hmk
    clear hmk
    obtain ⟨F1, hF1⟩ : ∃ F1, m.found 1 k = F1 := ⟨_, rfl⟩
    obtain ⟨F2, hF2⟩ : ∃ F2, m.found 2 k = F2 := ⟨_, rfl⟩
    rw [hF1, hF2] at hsb
    rw [hF1] at HF1 hfl1
    rw [hF2] at HF2 hfl2
    have HFF := Lib.hid (And.intro hF1 hF2)
    clear hF1 hF2
    have hTm : T ≤ 4096 := by have := HM.out.most; omega
    have hnsb : ¬ FT b v (w.heap.size + 1) := fun h => by have := HFT.out _ h; omega
    obtain ⟨g, c, rfl, hc1, hc2, hgb⟩ := hrm.shape hok
    have c0 := blk_cell hrm.blk 0
    have c1 := blk_cell hrm.blk 1
    have c4 := blk_cell hrm.blk 4
    simp only [rcs, List.getElem?_toArray, List.getElem?_cons_succ, List.getElem?_cons_zero] at c0 c1 c4
    have s0 := blk_cell hsb 0
    have s1 := blk_cell hsb 1
    have s2 := blk_cell hsb 2
    simp only [List.getElem?_toArray, List.getElem?_cons_succ, List.getElem?_cons_zero] at s0 s1 s2
    have q0 := blk_frozen hsb 0
    have q1 := blk_frozen hsb 1
    have q2 := blk_frozen hsb 2
    have HL := Lib.hid hvl
    clear hg
    by_cases hlt2 : k < T
    · obtain ⟨ho, hkn, hkl⟩ := turns_more (m := m) (n := n) (k := k) (by rw [HT.out]; exact hlt2)
      rw [hvo, ho] at c4
      have hkl2 : (k : Int) < (mk.code.length : Int) := by rw [hvl]; omega
      have hcell := hrm.code hok.next
      have hn1 : (mk.next : Int) < (mk.code.length : Int) := by have := hok.next; omega
      have hn0 : (0 : Int) ≤ (mk.next : Int) := by omega
      have HD := Lib.hid (fun W => E.rdec_any (mk.at mk.next) (by have := hok.small mk.next; omega) W)
      have hnm := next_mod hok.pos hok.most hok.next
      have hnx : (mk.next : Int) < 4096 := by have := hok.most; omega
      have hnz : ¬ mk.code = [] := fun e => by have := hok.pos; rw [e] at this; simp at this
      have hnz2 : ((mk.code.length : Int) == 0) = false := by simp [hnz]
      have hdle := (E.dec_le (mk.at mk.next)).1
      have hdl := E.dec_lt (mk.at mk.next)
      have HRM := Lib.hid hrm
      have HSV := Lib.hid hsv
      have HSB := Lib.hid hsb
      have HRES := Lib.hid hres
      have HOK := Lib.hid hok
      have HLT := Lib.hid hlt2
      have HSZ := Lib.hid hsz
      have HNS := Lib.hid hnsb
      have hx0 := hrm.aside hnsb 0 (.int .i64 ((k : Int) + 1))
      have e0 := blk_cell hx0.blk 0
      have e1 := blk_cell hx0.blk 1
      have r1 := blk_frozen hx0.blk 1
      simp only [rcs, List.getElem?_toArray, List.getElem?_cons_succ, List.getElem?_cons_zero] at e0 e1
      have HX0 := Lib.hid hx0
      have hki : (0 : Int) ≤ (k : Int) ∧ (k : Int) < 4096 := by omega
      have hv1 := fun h => visit_one (m := mk) h
      have hv2 := fun h => visit_other (m := mk) h
      clear hrm hsv hsb hok hvl hvo ho hx0 hlt2 hres
      generalize hde : E.dec (mk.at mk.next) = d at *
      obtain ⟨y, st⟩ := d
      dsimp only at *
      by_cases hs1 : st = 1
      · have hs1i : (((st : Nat) : Int) == 1) = true := by simp [hs1]
        have hs2i : (((st : Nat) : Int) == 2) = false := by simp [hs1]
        have HV := Lib.hid (hv1 hs1)
        rw [if_pos hs1] at HF1
        rw [if_neg (by omega)] at HF2
        have hf1 : (F1 : Int) < 4096 := by omega
        have HE := Lib.hid (fun W => E.renc_any y hdl W)
        clear hs1 hv1 hv2 hde
        go_wp2_with fail
        go_quiet ((go_at_call 48; exact Calls.quiet_of_same (HD.out _)))
        go_wp2_with fail
        obtain ⟨Y, hY⟩ : ∃ Y, Y = ((World.drewN wr nq).setCell ⟨w.heap.size + 1, 0, none⟩ (.int .i64 ((k : Int) + 1))).setCell ⟨w.heap.size + 1, 1, none⟩ (.int .i64 ((F1 : Int) + 1)) := ⟨_, rfl⟩
        rw [← hY]
        have hYr : RM Y b (.slice (some ⟨g, 0, none⟩) mk.code.length c) mk := by rw [hY]; exact ((HRM.out.drewN nq).aside HNS.out 0 _).aside HNS.out 1 _
        have hYs : Y.heap[w.heap.size + 1]? = some (.cells #[.int .i64 ((k + 1 : Nat) : Int), .int .i64 ((F1 + 1 : Nat) : Int), .int .i64 (F2 : Nat)] 75 (0, 0)) := by rw [hY]; exact blk_set (blk_set (w := World.drewN wr nq) HSB.out 0 _) 1 _
        have hYq : Y.heap[w.heap.size]? = wr.heap[w.heap.size]? := by rw [hY]; exact (Below.heap_setCell _ _ _ _ (by show _ ≠ _ + 1; omega)).trans ((Below.heap_setCell _ _ _ _ (by show _ ≠ _ + 1; omega)).trans rfl)
        have hYv : Save (FT b (.slice (some ⟨g, 0, none⟩) mk.code.length c)) w Y := by rw [hY]; exact ((HSV.out.drewN nq).setNew (by simp) _).setNew (by simp) _
        have y0 := blk_cell hYr.blk 0
        have y1 := blk_cell hYr.blk 1
        simp only [rcs, List.getElem?_toArray, List.getElem?_cons_succ, List.getElem?_cons_zero] at y0 y1
        have ycell := hYr.code HOK.out.next
        have ysoft := hYr.soft mk.next
        have HP := Lib.hid (hYr.put hgb mk.next (E.enc y))
        have HYR := Lib.hid hYr
        have HYS := Lib.hid hYs
        have HYV := Lib.hid hYv
        have HYQ := Lib.hid hYq
        have HYZ : Hid (w.heap.size + 1 < Y.heap.size) := Lib.hid (by rw [hY]; simpa using HSZ.out)
        clear hY hYr hYs hYv hYq
        generalize E.enc y = z at *
        go_still_tail 11, (by kernel_rfl)
        still_call (HE.out _)
        repeat still_step
        refine wpStill_nil ?_
        change wpList _ _ _ _ _ Y.drew
        go_wp2_with fail
        obtain ⟨X, hX⟩ : ∃ X, X = World.drew (Y.setCell ⟨g, mk.next, none⟩ (.int .u64 (z : Nat))) := ⟨_, rfl⟩
        rw [← hX]
        have hXr : RM X b (.slice (some ⟨g, 0, none⟩) mk.code.length c) { mk with code := mk.code.set mk.next z } := by rw [hX]; exact RM.drew HP.out.1
        have hXs : X.heap[w.heap.size + 1]? = some (.cells #[.int .i64 ((k + 1 : Nat) : Int), .int .i64 ((F1 + 1 : Nat) : Int), .int .i64 (F2 : Nat)] 75 (0, 0)) := by rw [hX]; exact (Below.heap_setCell _ _ _ _ (by have := HNS.out; intro e; exact this (.inr (by rw [e]; rfl)))).trans HYS.out
        have hXq : X.heap[w.heap.size]? = wr.heap[w.heap.size]? := by rw [hX]; exact (Below.heap_setCell _ _ _ _ (by show _ ≠ g; have := HFT.out g (.inr rfl); omega)).trans HYQ.out
        have hXv : Save (FT b (.slice (some ⟨g, 0, none⟩) mk.code.length c)) w X := by rw [hX]; exact (HYV.out.trans HP.out.2).drew
        have x0 := blk_cell hXr.blk 0
        have x1 := blk_cell hXr.blk 1
        have xf := blk_frozen hXr.blk 1
        simp only [rcs, List.getElem?_toArray, List.getElem?_cons_succ, List.getElem?_cons_zero] at x0 x1
        have HXR := Lib.hid hXr
        have HXS := Lib.hid hXs
        have HXV := Lib.hid hXv
        have HXQ := Lib.hid hXq
        have HXZ : Hid (w.heap.size + 1 < X.heap.size) := Lib.hid (by rw [hX]; simpa using HYZ.out)
        clear hX hXr hXs hXv hXq
        go_still_tail 14, (by kernel_rfl)
        change wpList _ _ _ _ _ X.drew
        go_wp2_with fail
        go_roundg (gk - 1)
        case measure => have := HG.out; have := HLT.out; omega
        case rel => exact ⟨k + 1, by have := HG.out; have := HLT.out; omega, by go_num, by rw [HVS.out, HV.out]; exact RM.drew (HXR.out.set 1 _ { mk with code := mk.code.set mk.next z, next := (mk.next + 1) % mk.code.length } (by simp [rcs]) rfl), (HXV.out.setCell (p := ⟨b, 1, none⟩) (.inl rfl) _).drew, by simpa using HXZ.out, by rw [HF1.out, HF2.out]; exact (Below.heap_setCell _ _ _ _ (by show _ ≠ b; omega)).trans HXS.out, (Below.heap_setCell _ _ _ _ (by show _ ≠ b; omega)).trans (HXQ.out.trans HRES.out)⟩
      · have hs1i : (((st : Nat) : Int) == 1) = false := by simp; omega
        have HV := Lib.hid (hv2 hs1)
        rw [if_neg hs1] at HF1
        by_cases hs2 : st = 2
        · have hs2i : (((st : Nat) : Int) == 2) = true := by simp [hs2]
          rw [if_pos hs2] at HF2
          have hf2 : (F2 : Int) < 4096 := by omega
          clear hs1 hs2 hv1 hv2 hde
          go_wp2_with fail
          go_quiet ((go_at_call 48; exact Calls.quiet_of_same (HD.out _)))
          go_wp2_with fail
          obtain ⟨X, hX⟩ : ∃ X, X = ((World.drewN wr nq).setCell ⟨w.heap.size + 1, 0, none⟩ (.int .i64 ((k : Int) + 1))).setCell ⟨w.heap.size + 1, 2, none⟩ (.int .i64 ((F2 : Int) + 1)) := ⟨_, rfl⟩
          rw [← hX]
          have hXr : RM X b (.slice (some ⟨g, 0, none⟩) mk.code.length c) mk := by rw [hX]; exact ((HRM.out.drewN nq).aside HNS.out 0 _).aside HNS.out 2 _
          have hXs : X.heap[w.heap.size + 1]? = some (.cells #[.int .i64 ((k + 1 : Nat) : Int), .int .i64 (F1 : Nat), .int .i64 ((F2 + 1 : Nat) : Int)] 75 (0, 0)) := by rw [hX]; exact blk_set (blk_set (w := World.drewN wr nq) HSB.out 0 _) 2 _
          have hXq : X.heap[w.heap.size]? = wr.heap[w.heap.size]? := by rw [hX]; exact (Below.heap_setCell _ _ _ _ (by show _ ≠ _ + 1; omega)).trans ((Below.heap_setCell _ _ _ _ (by show _ ≠ _ + 1; omega)).trans rfl)
          have hXv : Save (FT b (.slice (some ⟨g, 0, none⟩) mk.code.length c)) w X := by rw [hX]; exact ((HSV.out.drewN nq).setNew (by simp) _).setNew (by simp) _
          have x0 := blk_cell hXr.blk 0
          have x1 := blk_cell hXr.blk 1
          have xf := blk_frozen hXr.blk 1
          simp only [rcs, List.getElem?_toArray, List.getElem?_cons_succ, List.getElem?_cons_zero] at x0 x1
          have HXR := Lib.hid hXr
          have HXS := Lib.hid hXs
          have HXV := Lib.hid hXv
          have HXQ := Lib.hid hXq
          have HXZ : Hid (w.heap.size + 1 < X.heap.size) := Lib.hid (by rw [hX]; simpa using HSZ.out)
          clear hX hXr hXs hXv hXq
          go_still_tail 14, (by kernel_rfl)
          change wpList _ _ _ _ _ X.drew
          go_wp2_with fail
          go_roundg (gk - 1)
          case measure => have := HG.out; have := HLT.out; omega
          case rel => exact ⟨k + 1, by have := HG.out; have := HLT.out; omega, by go_num, by rw [HVS.out, HV.out]; exact RM.drew (HXR.out.set 1 _ { mk with code := mk.code, next := (mk.next + 1) % mk.code.length } (by simp [rcs]) rfl), (HXV.out.setCell (p := ⟨b, 1, none⟩) (.inl rfl) _).drew, by simpa using HXZ.out, by rw [HF1.out, HF2.out]; exact (Below.heap_setCell _ _ _ _ (by show _ ≠ b; omega)).trans HXS.out, (Below.heap_setCell _ _ _ _ (by show _ ≠ b; omega)).trans (HXQ.out.trans HRES.out)⟩
        · have hs2i : (((st : Nat) : Int) == 2) = false := by simp; omega
          rw [if_neg hs2] at HF2
          clear hs1 hs2 hv1 hv2 hde
          go_wp2_with fail
          go_quiet ((go_at_call 48; exact Calls.quiet_of_same (HD.out _)))
          go_wp2_with fail
          obtain ⟨X, hX⟩ : ∃ X, X = (World.drewN wr nq).setCell ⟨w.heap.size + 1, 0, none⟩ (.int .i64 ((k : Int) + 1)) := ⟨_, rfl⟩
          rw [← hX]
          have hXr : RM X b (.slice (some ⟨g, 0, none⟩) mk.code.length c) mk := by rw [hX]; exact (HRM.out.drewN nq).aside HNS.out 0 _
          have hXs : X.heap[w.heap.size + 1]? = some (.cells #[.int .i64 ((k + 1 : Nat) : Int), .int .i64 (F1 : Nat), .int .i64 (F2 : Nat)] 75 (0, 0)) := by rw [hX]; exact blk_set (w := World.drewN wr nq) HSB.out 0 _
          have hXq : X.heap[w.heap.size]? = wr.heap[w.heap.size]? := by rw [hX]; exact (Below.heap_setCell _ _ _ _ (by show _ ≠ _ + 1; omega)).trans rfl
          have hXv : Save (FT b (.slice (some ⟨g, 0, none⟩) mk.code.length c)) w X := by rw [hX]; exact (HSV.out.drewN nq).setNew (by simp) _
          have x0 := blk_cell hXr.blk 0
          have x1 := blk_cell hXr.blk 1
          have xf := blk_frozen hXr.blk 1
          simp only [rcs, List.getElem?_toArray, List.getElem?_cons_succ, List.getElem?_cons_zero] at x0 x1
          have HXR := Lib.hid hXr
          have HXS := Lib.hid hXs
          have HXV := Lib.hid hXv
          have HXQ := Lib.hid hXq
          have HXZ : Hid (w.heap.size + 1 < X.heap.size) := Lib.hid (by rw [hX]; simpa using HSZ.out)
          clear hX hXr hXs hXv hXq
          go_still_tail 14, (by kernel_rfl)
          change wpList _ _ _ _ _ X.drew
          go_wp2_with fail
          go_roundg (gk - 1)
          case measure => have := HG.out; have := HLT.out; omega
          case rel => exact ⟨k + 1, by have := HG.out; have := HLT.out; omega, by go_num, by rw [HVS.out, HV.out]; exact RM.drew (HXR.out.set 1 _ { mk with next := (mk.next + 1) % mk.code.length } (by simp [rcs]) rfl), (HXV.out.setCell (p := ⟨b, 1, none⟩) (.inl rfl) _).drew, by simpa using HXZ.out, by rw [HF1.out, HF2.out]; exact (Below.heap_setCell _ _ _ _ (by show _ ≠ b; omega)).trans HXS.out, (Below.heap_setCell _ _ _ _ (by show _ ≠ b; omega)).trans (HXQ.out.trans HRES.out)⟩
    · obtain rfl : k = T := by omega
      have hte := turns_end HT.out.symm
      have t0 := blk_cell hres 0
      have t1 := blk_cell hres 1
      have t2 := blk_cell hres 2
      simp only [List.getElem?_toArray, List.getElem?_cons_succ, List.getElem?_cons_zero] at t0 t1 t2
      have p0 := blk_frozen hres 0
      have p1 := blk_frozen hres 1
      have p2 := blk_frozen hres 2
      have HSV := Lib.hid hsv
      have HRM := Lib.hid hrm
      have HMK : Hid (m.scrub n = mk) := Lib.hid (by unfold Mem.scrub; rw [HT.out]; exact HMS.out)
      have hnb : ¬ FT b (.slice (some ⟨g, 0, none⟩) mk.code.length c) w.heap.size := fun h => by have := HFT.out _ h; omega
      have HNB := Lib.hid hnb
      have HRES := Lib.hid hres
      clear hrm hsv hok hnb hres hsb hnsb
      by_cases hkn : (k : Int) < n
      · by_cases hkl : (k : Int) < (mk.code.length : Int)
        · have ho : mk.off = true := by
            rcases hte with h | h | h
            · rw [hvo]; exact h
            · omega
            · rw [hvl] at hkl; omega
          rw [ho] at c4
          clear hte hvo hvl ho hlt2
          go_wp2_with fail
          refine bodyPost_ret (results_row1 (ty := 75) rfl _ _ w.heap.size 75 #[.int .i64 (k : Nat), .int .i64 (F1 : Nat), .int .i64 (F2 : Nat)] (0, 0) _ rfl (blk_set (blk_set (blk_set HRES.out 0 _) 1 _) 2 _) Tryd.underlying75 rfl (by kernel_rfl)) rfl ?_
          exact ⟨by rw [HT.out, HFF.out.1, HFF.out.2], by rw [HMK.out]; exact ((HRM.out.aside HNB.out 0 _).aside HNB.out 1 _).aside HNB.out 2 _, ((HSV.out.setNew (Nat.le_refl _) _).setNew (Nat.le_refl _) _).setNew (Nat.le_refl _) _⟩
        · clear hte hvo hvl hlt2
          go_wp2_with fail
          refine bodyPost_ret (results_row1 (ty := 75) rfl _ _ w.heap.size 75 #[.int .i64 (k : Nat), .int .i64 (F1 : Nat), .int .i64 (F2 : Nat)] (0, 0) _ rfl (blk_set (blk_set (blk_set HRES.out 0 _) 1 _) 2 _) Tryd.underlying75 rfl (by kernel_rfl)) rfl ?_
          exact ⟨by rw [HT.out, HFF.out.1, HFF.out.2], by rw [HMK.out]; exact ((HRM.out.aside HNB.out 0 _).aside HNB.out 1 _).aside HNB.out 2 _, ((HSV.out.setNew (Nat.le_refl _) _).setNew (Nat.le_refl _) _).setNew (Nat.le_refl _) _⟩
      · clear hte hvo hvl hlt2
        go_wp2_with fail
        refine bodyPost_ret (results_row1 (ty := 75) rfl _ _ w.heap.size 75 #[.int .i64 (k : Nat), .int .i64 (F1 : Nat), .int .i64 (F2 : Nat)] (0, 0) _ rfl (blk_set (blk_set (blk_set HRES.out 0 _) 1 _) 2 _) Tryd.underlying75 rfl (by kernel_rfl)) rfl ?_
        exact ⟨by rw [HT.out, HFF.out.1, HFF.out.2], by rw [HMK.out]; exact ((HRM.out.aside HNB.out 0 _).aside HNB.out 1 _).aside HNB.out 2 _, ((HSV.out.setNew (Nat.le_refl _) _).setNew (Nat.le_refl _) _).setNew (Nat.le_refl _) _⟩
end M
end Go.Proofs.YtehpbjkacdmlaaaDoor
