/-
  The landed package journal: load, Open.
-/
import Derived.Test.YtnoohhpajoaaoaaDoorJP5
namespace Go.Proofs.YtnoohhpajoaaoaaDoor
open Go.RowKit
namespace J
open H R M
set_option linter.unusedVariables false
set_option maxRecDepth 100000
theorem u32_low_nat {x k : Nat} (hk : k ≤ 32) (hx : x < 4294967296) : bits .and .u32 (x : Int) ((2 ^ k - 1 : Nat) : Int) = ((x % 2 ^ k : Nat) : Int) := by
  rw [u32_low _ _ hk]
  have : ((x : Int) % 4294967296).toNat = x := by omega
  rw [this]
theorem mark_used {a u : Nat} (ha : a ≤ 1) (hu : u < 32768) : bits .and .u32 ((markN a u : Nat) : Int) 32767 = (u : Int) := by
  have h := u32_low_nat (x := markN a u) (k := 15) (by decide) (by unfold markN; omega)
  have e : markN a u % 2 ^ 15 = u := by unfold markN; omega
  rw [e] at h
  exact h
theorem mark_area {a u : Nat} (ha : a ≤ 1) (hu : u < 32768) : bits .and .u32 (((markN a u : Nat) : Int) / 32768) 1 = (a : Int) := by
  have e0 : ((markN a u : Nat) : Int) / 32768 = ((54488 + a : Nat) : Int) := by unfold markN; omega
  rw [e0]
  have h := u32_low_nat (x := 54488 + a) (k := 1) (by decide) (by omega)
  have e : (54488 + a) % 2 ^ 1 = a := by omega
  rw [e] at h
  exact h
theorem mark_sign {a u : Nat} (ha : a ≤ 1) (hu : u < 32768) : ((markN a u : Nat) : Int) / 65536 = 27244 := by unfold markN; omega
/-- The words of the area, as read. -/
theorem Lay.small {m : Mem} {ws : Nat → Nat} {s : JS} (h : Lay m.code.length ws s) (hw : Weak m ws) : (∀ x ∈ flatL s.rows, x < 4294967296) ∧ ∀ r ∈ s.rows, ∀ x ∈ r, x < 4294967296 := by
  have h1 : ∀ x ∈ flatL s.rows, x < 4294967296 := by
    intro x hx
    obtain ⟨i, hi⟩ := List.mem_iff_getElem?.1 hx
    have hil := (List.getElem?_eq_some_iff.1 hi).1
    have hfit := area_fits h.ok
    rw [← h.word i x hi]
    refine (hw _ ?_).1
    have ha := h.area
    have h3 : s.a * (m.code.length / 2 - 4) ≤ 1 * (m.code.length / 2 - 4) := Nat.mul_le_mul_right _ ha
    unfold startN
    omega
  refine ⟨h1, fun r hr x hx => h1 x ?_⟩
  unfold flatL
  exact List.mem_flatMap.2 ⟨r, hr, List.mem_cons_of_mem _ hx⟩
theorem not_near {m : Mem} {ws : Nat → Nat} {a : Nat} (ha : a < m.code.length) (h : m.readR a = (0, 20)) : ¬ Near m ws := fun hn => by
  have := hn.read ha
  rw [h] at this
  injection this with _ h2
  cases h2
/-- A memory beside a journal's block. -/
theorem pm_aside {w w' : World} {bj bm : Nat} {vm : Value} {m : Mem} (h : PM w bm vm m) (hs : Save (fun k => k = bj) w w') (hoff : ¬ FT bm vm bj) : PM w' bm vm m := h.save hs fun k hk e => hoff (e ▸ hk)
def LoadPost (w : World) (bj bm : Nat) (vm : Value) (m : Mem) (ws : Nat → Nat) (s : JS) (r : Ending) (w' : World) : Prop :=
  ∃ e, r = .returned (.int .i64 e) ∧ Save (fun k => k = bj) w w' ∧
    ((e = 20 ∧ ¬ Near m ws) ∨ (e = 0 ∧ ∃ v', PJ w' bj bm vm m ⟨s.rows, s.a, v'⟩ (fun k => v'.ownBlock = some k) ∧ ∀ k, v'.ownBlock = some k → w.heap.size ≤ k))
set_option maxHeartbeats 4000000 in
theorem pload_any {w : World} {bj bm : Nat} {vm : Value} {m : Mem} {ws : Nat → Nat} {s : JS} (h : PM w bm vm m) (hm : m.ok) (tb : E.Tab w) (hb : w.heap[bj]? = some (.cells #[.pointer (some ⟨bm, 0, none⟩), .int .i64 0, .slice none 0 0] 73 (0, 0))) (hoff : ¬ FT bm vm bj) (htab : bj ≠ 0) (hw : Weak m ws) (hl : Lay m.code.length ws s) :
    Calls Tryd.prog 40 #[.pointer (some ⟨bj, 0, none⟩)] w (LoadPost w bj bm vm m ws s) := by
  have hsm := hl.small hw
  have hfit := area_fits hl.ok
  have hn := hm.most
  have HH := Lib.hid h
  have HM := Lib.hid hm
  have HTB := Lib.hid tb
  have HOFF := Lib.hid hoff
  have HB := Lib.hid hb
  have HW := Lib.hid hw
  have HL := Lib.hid hl
  have HSM := Lib.hid hsm
  have hmk := hl.mark
  have ha1 := hl.area
  have hul : usedL s.rows ≤ m.code.length / 2 - 4 := by rw [← flatL_len]; exact hfit.1
  have HR0 := Lib.hid (pread_any h hm tb 0)
  have c0 := blk_cell hb 0
  have c1 := blk_cell hb 1
  have f1 := blk_frozen hb 1
  simp only [List.getElem?_toArray, List.getElem?_cons_succ, List.getElem?_cons_zero] at c0 c1
  rcases hw.read (a := 0) (by omega) with hr0 | hr0
  · have HRR : Hid (m.readR 0 = (markN s.a (usedL s.rows), 0)) := Lib.hid (by rw [← hmk]; exact hr0)
    rw [HRR.out] at HR0
    have hq1 := mark_used ha1 (u := usedL s.rows) (by omega)
    have hq2 := mark_area ha1 (u := usedL s.rows) (by omega)
    have hq3 := mark_sign ha1 (u := usedL s.rows) (by omega)
    have HCAP := Lib.hid (fun n => pcap_any (h.drewN n) hm (show (w.drewN n).heap[bj]? = _ from hb))
    have hcq : ¬ ((m.code.length / 2 : Nat) : Int) - 4 < (usedL s.rows : Int) := by omega
    have HU := Lib.hid (flatL_len s.rows)
    have hub : usedL s.rows ≤ 2044 := by omega
    have HF := Lib.hid hfit
    have hn2 : m.code.length / 2 ≤ 2048 := by omega
    clear h hm tb hb hoff hw hl hsm hfit hn hmk hul hr0 HRR
    generalize markN s.a (usedL s.rows) = q at *
    generalize usedL s.rows = u at *
    generalize hnh : m.code.length / 2 = nh at *
    have HNH := Lib.hid hnh
    clear hnh
    obtain ⟨a, haa⟩ : ∃ a, s.a = a := ⟨_, rfl⟩
    have HA := Lib.hid haa
    rw [haa] at ha1 hq2
    clear haa
    go_enter Tryd.func40, Tryd.ntmps40
    go_wp2_with fail
    refine HR0.out.mono ?_
    rintro r w1 ⟨rfl, n1, rfl⟩
    go_wp2_with fail
    refine (HCAP.out n1).mono ?_
    rintro r w1 ⟨rfl, rfl⟩
    go_wp2_with fail
    obtain ⟨X, hX⟩ : ∃ X, X = (w.drewN n1).setCell ⟨bj, 1, none⟩ (.int .i64 (a : Nat)) := ⟨_, rfl⟩
    rw [← hX]
    have hXb : X.heap[bj]? = some (.cells #[.pointer (some ⟨bm, 0, none⟩), .int .i64 (a : Nat), .slice none 0 0] 73 (0, 0)) := by
      have := blk_set (show (w.drewN n1).heap[bj]? = _ from HB.out) 1 (.int .i64 (a : Nat))
      rw [hX]
      simpa using this
    have hXs : Save (fun k => k = bj) w X := by rw [hX]; exact ((Save.refl (fun k => k = bj) w).drewN n1).setCell (p := ⟨bj, 1, none⟩) rfl _
    have HXB := Lib.hid hXb
    have HXS := Lib.hid hXs
    clear hX hXb hXs c0 c1 f1 hq1 hq2 hq3 hcq
    go_loopg [42] u (fun g i wr => ∃ (k : Nat) (v : Value), k + g = u ∧ i = .int .i64 (k : Nat) ∧ wr.heap[bj]? = some (.cells #[.pointer (some ⟨bm, 0, none⟩), .int .i64 (a : Nat), v] 73 (0, 0)) ∧ wr.ownsRow 0 30 1 v k (w32 ((flatL s.rows).take k)) ∧ (∀ j, v.ownBlock = some j → w.heap.size ≤ j) ∧ Save (fun k => k = bj) w wr)
    case atStart => exact ⟨0, .slice none 0 0, Nat.zero_add _, rfl, HXB.out, World.ownsRow_nil _ _ _ _, (fun j hj => by simp [Value.ownBlock] at hj), HXS.out⟩
    case round =>
      obtain ⟨k, v, hg, rfl, hbl, hown, hlow, hs⟩ := hrel
      have HGG := Lib.hid hg
      have HBL := Lib.hid hbl
      have HO := Lib.hid hown
      have HLO := Lib.hid hlow
      have HS := Lib.hid hs
      have hku : k ≤ u := by omega
      have hpm := pm_aside HH.out hs HOFF.out
      have HPM := Lib.hid hpm
      have htb := M.tab_save HTB.out hs (fun e => htab e.symm)
      have HTW := Lib.hid htb
      clear hg hbl hown hlow hs hpm htb
      by_cases hlt : k < u
      · have hki : (k : Int) < (u : Int) := by omega
        obtain ⟨x, hxk⟩ : ∃ x, (flatL s.rows)[k]? = some x := ⟨_, List.getElem?_eq_getElem (by rw [HU.out]; exact hlt)⟩
        have hxl := HSM.out.1 x (List.mem_of_getElem? hxk)
        obtain ⟨n, hn⟩ : ∃ n, n = m.code.length := ⟨_, rfl⟩
        obtain ⟨st, hst⟩ : ∃ st, startN n a = st := ⟨_, rfl⟩
        have hstn : st + k < n ∧ n ≤ 4096 ∧ 8 ≤ n := by
          have h1 := HF.out.1
          have h2 := HF.out.2
          have h4 := HM.out.most
          have h5 := HNH.out
          rw [HU.out] at h1
          rw [← hn] at h2 h4 h5
          have h3 : a * (n / 2 - 4) ≤ 1 * (n / 2 - 4) := Nat.mul_le_mul_right _ ha1
          rw [← hst]
          unfold startN
          rw [h5] at h3 ⊢
          omega
        obtain ⟨p, hp⟩ : ∃ p, p = st + k := ⟨_, rfl⟩
        have hwst : IntKind.i64.wrap ((st : Int) + (k : Int)) = (p : Int) := by rw [IntKind.wrap_i64]; omega
        have hwp : ws p = x := by
          have := HL.out.word k x hxk
          rw [HA.out, ← hn, hst, ← hp] at this
          exact this
        have HST := Lib.hid (fun q => by have := pstart_any (HPM.out.drewN q) HM.out (by rw [← hn]; exact hstn.2.2) (show (wr.drewN q).heap[bj]? = _ from HBL.out) ha1; rw [← hn, hst] at this; exact this)
        have HRD := Lib.hid (fun q => pread_any (HPM.out.drewN q) HM.out (HTW.out.drewN q) (p : Int))
        have hpl : p < m.code.length := by rw [← hn]; omega
        have c0 := blk_cell HBL.out 0
        have c1 := blk_cell HBL.out 1
        simp only [List.getElem?_toArray, List.getElem?_cons_succ, List.getElem?_cons_zero] at c0 c1
        have HXK := Lib.hid (And.intro hxk hxl)
        rcases HW.out.read hpl with hrp | hrp
        · rw [hwp] at hrp
          rw [hrp] at HRD
          obtain ⟨i0, hi, hz0, hz1, hz2⟩ := info_parts infoU
          obtain ⟨A, c, rfl⟩ := own_shape HO.out
          have hbb := blk_lt HBL.out
          have hnb : ∀ j, (Value.slice A k c).ownBlock = some j → j ≠ bj := fun j hj e => by have := HLO.out j hj; have := blk_lt HB.out; omega
          have HNB := Lib.hid hnb
          have HBB := Lib.hid hbb
          have c2 := blk_cell HBL.out 2
          simp only [List.getElem?_toArray, List.getElem?_cons_succ, List.getElem?_cons_zero] at c2
          have HOW := Lib.hid (fun n => own_drewN HO.out n)
          have HSNOC : Hid (w32 ((flatL s.rows).take (k + 1)) = w32 ((flatL s.rows).take k) ++ [.int .u32 (x : Int)]) := Lib.hid (by rw [List.take_add_one, HXK.out.1]; exact w32_snoc _ _)
          clear hxk hxl hstn hp hwp hpl hrp hnb hbb hst hn hlt
          go_wp2_with fail
          go_quiet ((first | (go_at_call 52; exact Calls.quiet_of ((HST.out _).mono fun r w' h => ⟨h.1, 0, h.2⟩)) | (go_at_call 53; exact Calls.quiet_of (HRD.out _))))
          go_wp2_with (at_builtin; refine wpList_append_elder rfl (.tmp 68) (.tmp 70) 35 rfl 0 30 i0 (.int .u32 0) 4 Tryd.underlying35 hi hz0 hz1 hz2 rfl (.slice A k c) k _ rfl (own_kept_below (HOW.out nq) ((Below.refl _ _).alloc (Nat.le_refl _) _)) _ rfl [.int .u32 (x : Nat)] (fun k => k = wr.heap.size) ⟨some ⟨wr.heap.size, 0, none⟩, 1, rfl, (fun e => by cases e), Nat.le_refl _, (fun j y hy => ⟨_, rfl, rfl, by rw [ad_add]; exact cell_new1 (wr.drewN nq) _ _ j y hy, by rw [ad_add]; exact blk_frozen (heap_alloc_new (wr.drewN nq) _) j⟩)⟩ (by intro y hy; rw [List.mem_singleton.1 hy]; rfl) (by simp; unfold maxLen; omega) (by simp; omega) (Nat.zero_le _) 0 0 (.slice none 0 0) [] (World.ownsRow_nil _ _ _ _) (fun g a b c d h => by cases h) ?_; intro v2 w2 ho2 hs2 hk2 he2 hp2; change w2.ownsRow 0 30 1 v2 (k + 1) _ at ho2; obtain ⟨A2, d2, rfl⟩ := own_shape ho2; have hS2 : Save (fun j => (Value.slice A k c).ownBlock = some j) wr w2 := (((Save.refl _ wr).drewN nq).alloc _).trans hs2; have hb2 := (hS2.block bj HBB.out fun e => HNB.out bj e rfl).trans HBL.out; have z2 := blk_cell hb2 2; have y2 := blk_frozen hb2 2; simp only [List.getElem?_toArray, List.getElem?_cons_succ, List.getElem?_cons_zero] at z2; have F2 := Lib.hid (And.intro ho2 (And.intro hS2 (And.intro hk2 hb2))); clear ho2 hs2 hk2 he2 hp2 hS2 hb2)
          go_roundg (gk - 1)
          case measure => have := HGG.out; omega
          case rel =>
            have hk3 : ∀ j, (Value.slice A2 (k + 1) d2).ownBlock = some j → w.heap.size ≤ j := fun j hj => (F2.out.2.2.1 j hj).elim (HLO.out j) fun h => by
              have h2 := HS.out.size
              have : ((wr.drewN nq).alloc (.cells #[.int .u32 (x : Int)] 30)).heap.size = wr.heap.size + 1 := by simp [World.drewN]
              omega
            refine ⟨k + 1, .slice A2 (k + 1) d2, by have := HGG.out; omega, by go_num, ?_, ?_, hk3, ?_⟩
            · have := blk_set F2.out.2.2.2 2 (.slice A2 (k + 1) d2)
              simpa using this
            · rw [HSNOC.out]
              exact own_setoff F2.out.1 (fun e => by have := hk3 _ e; have := blk_lt HB.out; omega)
            · exact (HS.out.trim F2.out.2.1 fun j hj => .inr (HLO.out j hj)).setCell (F := fun k => k = bj) (p := ⟨bj, 2, none⟩) rfl _
        · have HNN := Lib.hid (not_near (ws := ws) hpl hrp)
          rw [hrp] at HRD
          clear hxk hxl hstn hp hwp hpl hrp hst hn hlt
          go_wp2_with fail
          go_quiet ((first | (go_at_call 52; exact Calls.quiet_of ((HST.out _).mono fun r w' h => ⟨h.1, 0, h.2⟩)) | (go_at_call 53; exact Calls.quiet_of (HRD.out _))))
          go_wp2_with fail
          go_ret
          exact ⟨20, rfl, HS.out.drewN _, .inl ⟨rfl, HNN.out⟩⟩
      · have hki : ¬ (k : Int) < (u : Int) := by omega
        obtain rfl : k = u := by omega
        have ho := HO.out
        rw [List.take_of_length_le (by rw [HU.out]; exact Nat.le_refl _)] at ho
        obtain ⟨A, c, rfl⟩ := own_shape ho
        have c2 := blk_cell HBL.out 2
        simp only [List.getElem?_toArray, List.getElem?_cons_succ, List.getElem?_cons_zero] at c2
        have HSP := Lib.hid (psplit_any (G2 := fun j => wr.heap.size ≤ j) (own_Sl ho) (errL_long HL.out.ok) (by rw [← flatL_len, HU.out]; omega) (fun j hj => hj))
        have HO2 := Lib.hid ho
        clear ho hlt
        go_wp2_with fail
        refine HSP.out.mono ?_
        rintro r w2 ⟨v2, rfl, _, hB2⟩
        have HB2 := Lib.hid hB2
        clear hB2
        go_wp2_with fail
        go_ret
        have hbb := blk_lt HBL.out
        refine ⟨0, rfl, HS.out.then HB2.out, .inr ⟨rfl, .slice A k c, ⟨HPM.out.keep HB2.out, ?_, ?_, fun j hj => hj, fun j hj => ⟨?_, ?_, ?_⟩, HOFF.out, HL.out.ok, HSM.out.2, HL.out.area, fun e => ?_⟩, HLO.out⟩⟩
        · rw [HA.out]; exact (HB2.out.block bj hbb).trans HBL.out
        · rw [HU.out]; exact own_kept_below HO2.out HB2.out
        · exact Nat.lt_of_lt_of_le (own_block HO2.out j hj) HB2.out.size
        · intro e; have := HLO.out j hj; have := blk_lt HB.out; omega
        · intro e; have := HLO.out j hj; have := HH.out.lt j e; omega
        · have := HLO.out _ e; have := HTB.out.pos; omega
  · have HNN := Lib.hid (not_near (ws := ws) (by omega) hr0)
    have HRR : Hid (m.readR 0 = (0, 20)) := Lib.hid hr0
    rw [HRR.out] at HR0
    clear h hm tb hb hoff hw hl hsm hfit hn hmk hul hr0 HRR c1 f1
    go_enter Tryd.func40, Tryd.ntmps40
    go_wp2_with fail
    refine HR0.out.mono ?_
    rintro r w1 ⟨rfl, n1, rfl⟩
    go_wp2_with fail
    go_ret
    exact ⟨20, rfl, (Save.refl _ w).drewN n1, .inl ⟨rfl, HNN.out⟩⟩
end J
end Go.Proofs.YtnoohhpajoaaoaaDoor
