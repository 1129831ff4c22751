/-
  Contracts of the landed package journal: Open, Format.
-/
import Derived.Test.YtnoohhpajoaaoaaDoorJP6
namespace Go.Proofs.YtnoohhpajoaaoaaDoor
open Go.RowKit
namespace J
open H R M
set_option linter.unusedVariables false
set_option maxRecDepth 100000
set_option maxHeartbeats 2000000 in
/-- load finds no mark. -/
theorem pload_none {w : World} {bj bm : Nat} {vm x y : Value} {m : Mem} (h : PM w bm vm m) (hm : m.ok) (tb : E.Tab w) (hb : w.heap[bj]? = some (.cells #[.pointer (some ⟨bm, 0, none⟩), x, y] 73 (0, 0))) (hr : m.readR 0 = (0, 0)) :
    Calls Tryd.prog 40 #[.pointer (some ⟨bj, 0, none⟩)] w fun r w' => r = .returned (.int .i64 7) ∧ Below w.heap.size w w' := by
  have HR0 := Lib.hid (pread_any h hm tb 0)
  rw [hr] at HR0
  have c0 := blk_cell hb 0
  simp only [List.getElem?_toArray, List.getElem?_cons_zero] at c0
  have hq1 : bits .and .u32 0 32767 = 0 := by decide
  clear h hm tb hb hr
  go_enter Tryd.func40, Tryd.ntmps40
  go_wp2_with fail
  refine HR0.out.mono ?_
  rintro r w1 ⟨rfl, n1, rfl⟩
  go_wp2_with fail
  go_ret
  exact ⟨rfl, below_drewN (Below.refl _ _) n1⟩
/-- What Open leaves. -/
def OpenPost (w : World) (bm : Nat) (vm : Value) (m : Mem) (ws : Nat → Nat) (s : JS) (r : Ending) (w' : World) : Prop :=
  ∃ p e, r = .returned (.tuple #[.pointer p, .int .i64 e]) ∧ Below w.heap.size w w' ∧
    ((e = 20 ∧ ¬ Near m ws) ∨ (e = 0 ∧ ∃ bj s' FR, p = some ⟨bj, 0, none⟩ ∧ PJ w' bj bm vm m s' FR ∧ w.heap.size ≤ bj ∧ (∀ k, FR k → w.heap.size ≤ k) ∧ s'.rows = s.rows ∧ Lay m.code.length ws s'))
set_option maxHeartbeats 2000000 in
theorem popen_any {w : World} {bm : Nat} {vm : Value} {m : Mem} (h : PM w bm vm m) (hm : m.ok) (tb : E.Tab w) (h16 : 16 ≤ m.code.length) (ws : Nat → Nat) (s : JS) (hw : Weak m ws) (hl : Lay m.code.length ws s) :
    Calls Tryd.prog 23 #[.pointer (some ⟨bm, 0, none⟩)] w (OpenPost w bm vm m ws s) := by
  have HLEN := Lib.hid (plen_any h)
  obtain ⟨X, hX⟩ : ∃ X, X = w.alloc (.cells #[.pointer (some ⟨bm, 0, none⟩), .int .i64 0, .slice none 0 0] 73) := ⟨_, rfl⟩
  have hB : Below w.heap.size w X := by rw [hX]; exact (Below.refl _ _).alloc (Nat.le_refl _) _
  have hXb : X.heap[w.heap.size]? = some (.cells #[.pointer (some ⟨bm, 0, none⟩), .int .i64 0, .slice none 0 0] 73 (0, 0)) := by rw [hX]; exact heap_alloc_new w _
  have hlt := h.lt
  have hld := pload_any (h.keep hB) hm (tb.below tb.pos hB) hXb (fun e => by have := hlt _ e; omega) (fun e => by have := tb.pos; omega) hw hl
  have HLD := Lib.hid hld
  have HB := Lib.hid hB
  have HX := Lib.hid hX
  have HL := Lib.hid hl
  have h16i : ¬ (m.code.length : Int) < 16 := by omega
  clear h hm tb hw hl hB hXb hlt hld hX h16
  generalize hn : m.code.length = n at *
  go_enter Tryd.func23, Tryd.ntmps23
  go_wp2_with fail
  refine HLEN.out.mono ?_
  rintro r w1 ⟨rfl, rfl⟩
  go_wp2_with fail
  rw [← HX.out]
  refine HLD.out.mono ?_
  intro r w2 hp
  obtain ⟨e, rfl, hs, hcase⟩ := hp
  have hB2 : Below w1.heap.size w1 w2 := HB.out.trans (hs.below HB.out.size fun k hk => by rw [hk]; exact Nat.le_refl _)
  rcases hcase with ⟨rfl, hnn⟩ | ⟨rfl, v', hpj, hv⟩
  · have HF := Lib.hid (And.intro hnn hB2)
    clear hnn hB2 hs
    go_wp2_with fail
    go_ret2
    exact ⟨none, 20, rfl, HF.out.2, .inl ⟨rfl, HF.out.1⟩⟩
  · have HF := Lib.hid (And.intro hpj (And.intro hv hB2))
    clear hpj hv hB2 hs
    go_wp2_with fail
    go_ret2
    refine ⟨_, 0, rfl, HF.out.2.2, .inr ⟨rfl, w1.heap.size, _, _, rfl, HF.out.1, Nat.le_refl _, fun k hk => Nat.le_trans HB.out.size (HF.out.2.1 k hk), rfl, ?_⟩⟩
    rw [hn]
    exact ⟨HL.out.ok, HL.out.area, HL.out.mark, HL.out.word⟩
set_option maxHeartbeats 2000000 in
theorem popen_none {w : World} {bm : Nat} {vm : Value} {n : Nat} (h : PM w bm vm (Mem.new n)) (h1 : 1 ≤ n) (h2 : n ≤ 4096) (tb : E.Tab w) :
    Calls Tryd.prog 23 #[.pointer (some ⟨bm, 0, none⟩)] w fun r w' => ∃ p, r = .returned (.tuple #[.pointer p, .int .i64 (if n < 16 then 2 else 7)]) ∧ Below w.heap.size w w' := by
  have HLEN := Lib.hid (plen_any h)
  have hlen : (Mem.new n).code.length = n := List.length_replicate
  rw [hlen] at HLEN
  by_cases h16 : n < 16
  · rw [if_pos h16]
    have h16i : (n : Int) < 16 := by omega
    clear h tb hlen h16
    go_enter Tryd.func23, Tryd.ntmps23
    go_wp2_with fail
    refine HLEN.out.mono ?_
    rintro r w1 ⟨rfl, rfl⟩
    go_wp2_with fail
    go_ret2
    exact ⟨_, rfl, Below.refl _ _⟩
  · rw [if_neg h16]
    have h16i : ¬ (n : Int) < 16 := by omega
    obtain ⟨X, hX⟩ : ∃ X, X = w.alloc (.cells #[.pointer (some ⟨bm, 0, none⟩), .int .i64 0, .slice none 0 0] 73) := ⟨_, rfl⟩
    have hB : Below w.heap.size w X := by rw [hX]; exact (Below.refl _ _).alloc (Nat.le_refl _) _
    have hXb : X.heap[w.heap.size]? = some (.cells #[.pointer (some ⟨bm, 0, none⟩), .int .i64 0, .slice none 0 0] 73 (0, 0)) := by rw [hX]; exact heap_alloc_new w _
    have hrd : (Mem.new n).readR 0 = (0, 0) := (new_near h1).1.read (a := 0) (by rw [hlen]; omega)
    have HLD := Lib.hid (pload_none (h.keep hB) (new_ok h1 h2) (tb.below tb.pos hB) hXb hrd)
    have HB := Lib.hid hB
    have HX := Lib.hid hX
    clear h tb hlen h16 hB hXb hrd hX
    go_enter Tryd.func23, Tryd.ntmps23
    go_wp2_with fail
    refine HLEN.out.mono ?_
    rintro r w1 ⟨rfl, rfl⟩
    go_wp2_with fail
    rw [← HX.out]
    refine HLD.out.mono ?_
    rintro r w2 ⟨rfl, hB2⟩
    have HB2 := Lib.hid (HB.out.trans (hB2.mono HB.out.size))
    clear hB2
    go_wp2_with fail
    go_ret2
    exact ⟨_, rfl, HB2.out⟩
/-- What Format leaves. -/
def FormatPost (w : World) (bm : Nat) (vm : Value) (m : Mem) (ws : Nat → Nat) (r : Ending) (w' : World) : Prop :=
  ∃ p e m', r = .returned (.tuple #[.pointer p, .int .i64 e]) ∧ PM w' bm vm m' ∧ m'.ok ∧ Save (FT bm vm) w w' ∧ (m'.code.length = m.code.length) ∧ (m'.count ≤ m.count + 20000) ∧
    (m.code.length < 16 → e = 2 ∧ m' = m) ∧ (16 ≤ m.code.length → m.off = true → e = 21 ∧ m' = m) ∧
    (16 ≤ m.code.length → m.off = false → m.left = 0 → e = 0 ∧ m'.off = false ∧ m'.left = 0 ∧ ∃ bj s FR ws', p = some ⟨bj, 0, none⟩ ∧ PJ w' bj bm vm m' s FR ∧ w.heap.size ≤ bj ∧ (∀ k, FR k → w.heap.size ≤ k) ∧ s.rows = [] ∧ Wrote m m' ws ws' ∧ Lay m.code.length ws' s)
theorem errL_empty {n : Nat} (h : 16 ≤ n) : errL n [] = 0 := errL_intro (fun r hr => by simp at hr) (by simp [usedL]; omega)
set_option maxHeartbeats 2000000 in
theorem pformat_any {w : World} {bm : Nat} {vm : Value} {m : Mem} (h : PM w bm vm m) (hm : m.ok) (tb : E.Tab w) (hc : m.count ≤ 900000) (ws : Nat → Nat) :
    Calls Tryd.prog 35 #[.pointer (some ⟨bm, 0, none⟩)] w (FormatPost w bm vm m ws) := by
  have HLEN := Lib.hid (plen_any h)
  by_cases h16 : m.code.length < 16
  · have h16i : (m.code.length : Int) < 16 := by omega
    have HH := Lib.hid (And.intro h (And.intro hm h16))
    clear h tb h16 hm hc
    generalize hn : m.code.length = n at *
    have HNE := Lib.hid hn
    clear hn
    go_enter Tryd.func35, Tryd.ntmps35
    go_wp2_with fail
    refine HLEN.out.mono ?_
    rintro r w1 ⟨rfl, rfl⟩
    go_wp2_with fail
    go_ret2
    exact ⟨none, 2, m, rfl, HH.out.1, HH.out.2.1, Save.refl _ _, rfl, by omega, fun _ => ⟨rfl, rfl⟩, fun h => by have := HH.out.2.2; have := HNE.out; omega, fun h => by have := HH.out.2.2; have := HNE.out; omega⟩
  · have h16i : ¬ (m.code.length : Int) < 16 := by omega
    obtain ⟨X, hX⟩ : ∃ X, X = w.alloc (.cells #[.pointer (some ⟨bm, 0, none⟩), .int .i64 0, .slice none 0 0] 73) := ⟨_, rfl⟩
    have hB : Below w.heap.size w X := by rw [hX]; exact (Below.refl _ _).alloc (Nat.le_refl _) _
    have hXb : X.heap[w.heap.size]? = some (.cells #[.pointer (some ⟨bm, 0, none⟩), .int .i64 0, .slice none 0 0] 73 (0, 0)) := by rw [hX]; exact heap_alloc_new w _
    have hlt := h.lt
    have hoff : ¬ FT bm vm w.heap.size := fun e => by have := hlt _ e; omega
    have c0 := blk_cell hXb 0
    simp only [List.getElem?_toArray, List.getElem?_cons_zero] at c0
    have HXL : Hid (w.heap.size < X.heap.size) := Lib.hid (blk_lt hXb)
    have HSV : Hid (∀ W' : World, Save (FT bm vm) X.drew W' → W'.cell? ⟨w.heap.size, 0, none⟩ = some (.pointer (some ⟨bm, 0, none⟩))) := Lib.hid (fun W' h3 => blk_cell ((h3.block w.heap.size HXL.out hoff).trans (show X.drew.heap[w.heap.size]? = _ from hXb)) 0)
    have HMK := Lib.hid (fun W : World => pmark_any (a := 0) (u := 0) (by decide) (by decide) W)
    have HW0 := Lib.hid (pwrite_any (h.keep hB).drew hm ((tb.below tb.pos hB).below (tb.below tb.pos hB).pos (Below.refl _ _).drew) (by omega) ((0 : Nat) : Int) (markN 0 0) (by decide))
    have HB := Lib.hid hB
    have HX := Lib.hid hX
    have HH := Lib.hid h
    have HM := Lib.hid hm
    have HN := Lib.hid h16
    have HXB := Lib.hid hXb
    have HOFF := Lib.hid hoff
    have HTB := Lib.hid tb
    by_cases hof : m.off = true
    · have HW := HW0.out
      rw [writeE_off (by omega) hof] at HW
      have HWH := Lib.hid HW
      clear h tb h16 hm hc HW HW0 hB hX hXb hlt hoff
      generalize hn : m.code.length = n at *
      have HNE := Lib.hid hn
      clear hn
      generalize markN 0 0 = q at *
      generalize hsz : w.heap.size = bj at *
      have HSZ := Lib.hid hsz
      clear hsz
      go_enter Tryd.func35, Tryd.ntmps35
      go_wp2_with fail
      refine HLEN.out.mono ?_
      rintro r w1 ⟨rfl, rfl⟩
      go_wp2_with fail
      rw [← HX.out, HSZ.out]
      go_region_held3 (fun W => W.cell? ⟨bj, 0, none⟩ = some (.pointer (some ⟨bm, 0, none⟩))) (first | assumption | go_keep)
        ((first
          | (go_at_call 51; refine (HMK.out _).mono ?_; rintro r w2 ⟨rfl, rfl⟩)
          | (go_at_call 50; refine HWH.out.mono ?_; rintro r w3 ⟨rfl, hp3, hs3⟩; have s3 := HSV.out w3 hs3)))
      rw [write_off _ _ hof] at hp3
      have HF := Lib.hid (And.intro hp3 ((Save.of_below (FT bm vm) (HSZ.out ▸ HB.out)).drew.trans (show Save (FT bm vm) X.drew w3 from hs3)))
      clear hp3 hs3 s3
      go_wp2_with fail
      go_ret2
      exact ⟨none, 21, m, rfl, HF.out.1, HM.out, HF.out.2, rfl, by omega, fun h => absurd (HNE.out ▸ h) HN.out, fun _ _ => ⟨rfl, rfl⟩, fun _ h => by rw [hof] at h; cases h⟩
    · have hof2 : m.off = false := by simpa using hof
      have HW := HW0.out
      rw [writeE_ok (by omega) hof2] at HW
      have HWH := Lib.hid HW
      have hQ : m.off = false → m.left = 0 → (m.write (0 : Nat) (markN 0 0)).off = false ∧ (m.write (0 : Nat) (markN 0 0)).left = 0 := fun h1 h2 => write_on _ _ h1 h2
      have hwr : Wrote m (m.write (0 : Nat) (markN 0 0)) ws (upd ws 0 (markN 0 0)) := (SI.start m ws 1 []).mark (by decide) (by omega) hof2 (by decide)
      have hlay : Lay m.code.length (upd ws 0 (markN 0 0)) ⟨[], 0, .slice none 0 0⟩ := ⟨errL_empty (by omega), by decide, upd_same _ _ _, fun i x hi => by simp [flatL] at hi⟩
      have HQ := Lib.hid (And.intro hQ (And.intro hwr (And.intro hlay (write_ok hm (0 : Nat) (w := markN 0 0) (by decide)))))
      have hcnt : (m.write (0 : Nat) (markN 0 0)).count ≤ m.count + 20000 := by rw [write_count (by omega) hof2]; omega
      have HCN := Lib.hid (And.intro hcnt (len_write m (0 : Nat) (markN 0 0)))
      have hlt2 := hlt
      have HLT := Lib.hid hlt2
      have herr : errL m.code.length [] = 0 := errL_empty (by omega)
      have HERR := Lib.hid herr
      clear h tb h16 hm hc HW HW0 hB hX hXb hlt hoff hQ hwr hlay hcnt hlt2 herr
      generalize hn : m.code.length = n at *
      have HNE := Lib.hid hn
      clear hn
      generalize hq : markN 0 0 = q at *
      have HQE := Lib.hid hq
      clear hq
      generalize hsz : w.heap.size = bj at *
      have HSZ := Lib.hid hsz
      clear hsz
      go_enter Tryd.func35, Tryd.ntmps35
      go_wp2_with fail
      refine HLEN.out.mono ?_
      rintro r w1 ⟨rfl, rfl⟩
      go_wp2_with fail
      rw [← HX.out, HSZ.out]
      go_region_held3 (fun W => W.cell? ⟨bj, 0, none⟩ = some (.pointer (some ⟨bm, 0, none⟩))) (first | assumption | go_keep)
        ((first
          | (go_at_call 51; refine (HMK.out _).mono ?_; rintro r w2 ⟨rfl, rfl⟩)
          | (go_at_call 50; refine HWH.out.mono ?_; rintro r w3 ⟨rfl, hp3, hs3⟩; have s3 := HSV.out w3 hs3)))
      have HF := Lib.hid (And.intro hp3 (show Save (FT bm vm) X.drew w3 from hs3))
      clear hp3 hs3 s3
      go_wp2_with fail
      go_ret2
      have hS := (Save.of_below (FT bm vm) (HSZ.out ▸ HB.out)).drew.trans HF.out.2
      refine ⟨_, 0, _, rfl, HF.out.1, HQ.out.2.2.2, hS, HCN.out.2.trans HNE.out.symm, HCN.out.1, fun h => absurd (HNE.out ▸ h) HN.out, (fun _ h => by rw [hof2] at h; cases h), fun _ h1 h2 => ⟨rfl, (HQ.out.1 h1 h2).1, (HQ.out.1 h1 h2).2, bj, ⟨[], 0, .slice none 0 0⟩, fun _ => False, _, rfl, ?_, Nat.le_of_eq HSZ.out, fun k hk => hk.elim, rfl, HQ.out.2.1, ?_⟩⟩
      · refine ⟨HF.out.1, (HF.out.2.block bj HXL.out HOFF.out).trans (show X.drew.heap[bj]? = _ from HXB.out), World.ownsRow_nil _ _ _ _, fun k hk => by simp [Value.ownBlock] at hk, fun k hk => hk.elim, HOFF.out, ?_, fun r hr => by simp at hr, by decide, fun h => h⟩
        rw [HCN.out.2]
        exact HERR.out
      · rw [HNE.out]; exact HQ.out.2.2.1
end J
end Go.Proofs.YtnoohhpajoaaoaaDoor
