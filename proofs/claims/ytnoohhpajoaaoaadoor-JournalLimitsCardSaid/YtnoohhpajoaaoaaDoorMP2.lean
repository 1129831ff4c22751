/-
  Contracts of the landed package memory: burn, Write, Flip, Fuse, Reset.
-/
import Derived.Test.YtnoohhpajoaaoaaDoorMP1
import Derived.Deep.DeepCutAuto
import Derived.Deep.RegionHeld3
import Derived.StillTailTactics
namespace Go.Proofs.YtnoohhpajoaaoaaDoor
open Go.RowKit
namespace M
open H
set_option linter.unusedVariables false
set_option maxRecDepth 100000
/-- What burn does. -/
def Mem.burn (m : Mem) : Mem := { m with left := m.left - 1, off := if m.left = 0 then m.off else decide (m.left = 1) }
set_option maxHeartbeats 1000000 in
theorem pburn_any {w : World} {b : Nat} {v : Value} {m : Mem} (h : PM w b v m) (hl : m.left ≤ 9223372036854775807) :
    Calls Tryd.prog 59 #[.pointer (some ⟨b, 0, none⟩)] w fun r w' => r = .returned (.tuple #[]) ∧ PM w' b v m.burn ∧ Save (FT b v) w w' := by
  have c3 := blk_cell h.blk 3
  have f3 := blk_frozen h.blk 3
  have f4 := blk_frozen h.blk 4
  have c4 := blk_cell h.blk 4
  simp only [pcs, List.getElem?_toArray, List.getElem?_cons_succ, List.getElem?_cons_zero] at c3 c4
  have HH := Lib.hid h
  clear h
  by_cases h0 : m.left = 0
  · have hb : m.burn = m := by unfold Mem.burn; rw [h0]; cases m; simp_all
    rw [hb]
    replace c3 : w.cell? ⟨b, 3, none⟩ = some (.int .i64 0) := by rw [c3, h0]; rfl
    clear hb h0 hl
    go_enter Tryd.func59, Tryd.ntmps59
    go_wp2_with fail
    refine bodyPost_ret (results_none rfl _ _ _) rfl ?_
    exact ⟨rfl, HH.out, Save.refl _ _⟩
  · have hb : m.burn = { m with left := m.left - 1, off := decide (m.left = 1) } := by unfold Mem.burn; rw [if_neg h0]
    rw [hb]
    have hl0 : ((m.left : Int) == 0) = false := by simp [h0]
    have hwl : wrap64 ((m.left : Int) - 1) = ((m.left - 1 : Nat) : Int) := by unfold wrap64; omega
    have HX : Hid (decide (0 < m.left - 1) = !decide (m.left = 1)) := Lib.hid (by by_cases h1 : m.left = 1 <;> simp [h1] <;> omega)
    clear hb hl h0
    go_enter Tryd.func59, Tryd.ntmps59
    go_wp2_with fail
    go_end0
    refine ⟨rfl, (HH.out.set 3 _ { m with left := m.left - 1 } (by simp [pcs]) rfl).set 4 _ { m with left := m.left - 1, off := decide (m.left = 1) } ?_ rfl, ((Save.refl _ _).setCell (p := ⟨b, 3, none⟩) (.inl rfl) _).setCell (p := ⟨b, 4, none⟩) (.inl rfl) _⟩
    simp [pcs, HX.out]
set_option maxHeartbeats 2000000 in
theorem pwrite_any {w : World} {b : Nat} {v : Value} {m : Mem} (h : PM w b v m) (hm : m.ok) (tb : E.Tab w) (hcnt : m.count < 1000000) (a : Int) (x : Nat) (hx : x < 4294967296) :
    Calls Tryd.prog 50 #[.pointer (some ⟨b, 0, none⟩), .int .i64 a, .int .u32 x] w fun r w' => r = .returned (.int .i64 (m.writeE a)) ∧ PM w' b v (m.write a x) ∧ Save (FT b v) w w' := by
  have HHAS := Lib.hid (phas_any h a)
  obtain ⟨g, c, rfl, hc1, hc2, hgb⟩ := h.shape hm
  have c4 := blk_cell h.blk 4
  simp only [pcs, List.getElem?_toArray, List.getElem?_cons_succ, List.getElem?_cons_zero] at c4
  have HH := Lib.hid h
  cases ha : m.has a with
  | false =>
    have hr : m.writeE a = 5 := by unfold Mem.writeE; rw [ha]; rfl
    have hw : m.write a x = m := by unfold Mem.write; rw [ha]; rfl
    rw [hr, hw]
    rw [ha] at HHAS
    clear ha hr hm h hw hx tb
    go_enter Tryd.func50, Tryd.ntmps50
    go_wp2_with fail
    refine HHAS.out.mono ?_
    rintro r w1 ⟨rfl, rfl⟩
    go_wp2_with fail
    go_ret
    exact ⟨rfl, HH.out, Save.refl _ _⟩
  | true =>
    rw [ha] at HHAS
    obtain ⟨k, rfl, hk⟩ := Mem.has_nat ha
    have hki : ¬ (m.code.length : Int) ≤ (k : Int) := by omega
    have hki2 : (k : Int) < (m.code.length : Int) := by omega
    have hk0 : ¬ (k : Int) < 0 := by omega
    have hk1 : (0 : Int) ≤ (k : Int) := by omega
    cases ho : m.off with
    | true =>
      have hr : m.writeE k = 21 := by unfold Mem.writeE; rw [ha, ho]; rfl
      have hw : m.write k x = m := by unfold Mem.write; rw [ho]; simp
      rw [hr, hw]
      replace c4 : w.cell? ⟨b, 4, none⟩ = some (.bool false) := by rw [c4, ho]; rfl
      clear ha hr hm h hw hx ho tb
      go_enter Tryd.func50, Tryd.ntmps50
      go_wp2_with fail
      refine HHAS.out.mono ?_
      rintro r w1 ⟨rfl, rfl⟩
      go_wp2_with fail
      go_ret
      exact ⟨rfl, HH.out, Save.refl _ _⟩
    | false =>
      have hr : m.writeE k = 0 := by unfold Mem.writeE; rw [ha, ho]; rfl
      have hw : m.write k x = ({ m with code := m.code.set k (E.enc x), count := m.count + 1 } : Mem).burn := by
        unfold Mem.write Mem.burn; rw [if_pos ⟨ha, ho⟩, Int.toNat_natCast]
        by_cases h1 : m.left = 0 <;> simp [h1, ho]
      rw [hr, hw]
      replace c4 : w.cell? ⟨b, 4, none⟩ = some (.bool true) := by rw [c4, ho]; rfl
      have hc0 := blk_cell h.blk 0
      simp only [pcs, List.getElem?_toArray, List.getElem?_cons_zero] at hc0
      have hcell := h.code hk
      have hsoft := h.soft k
      have HE := Lib.hid (E.penc_any x hx w.drew (tb.below tb.pos (Below.refl _ _).drew))
      have HP := Lib.hid (fun n => ((h.drewN n).put hgb k (E.enc x)))
      have HB := Lib.hid (fun W => pburn_any (w := W) (b := b) (v := .slice (some ⟨g, 0, none⟩) m.code.length c) (m := { m with code := m.code.set k (E.enc x), count := m.count + 1 }))
      have HL := Lib.hid hm.left
      have hcw : wrap64 ((m.count : Int) + 1) = ((m.count + 1 : Nat) : Int) := by unfold wrap64; omega
      clear ha hr h hw hx ho tb hm
      generalize E.enc x = y at *
      go_enter Tryd.func50, Tryd.ntmps50
      go_wp2_with fail
      refine HHAS.out.mono ?_
      rintro r w1 ⟨rfl, rfl⟩
      go_wp2_with fail
      go_region_held3 (fun w' => w'.cell? ⟨b, 0, none⟩ = some (.slice (some ⟨g, 0, none⟩) m.code.length c)) (first | assumption | go_keep)
        ((first | (go_at_call 45; refine HE.out.mono ?_; rintro r w2 ⟨rfl, n, rfl⟩)))
      obtain ⟨X, hX⟩ : ∃ X, X = (w1.drewN (1 + n)).setCell ⟨g, k, none⟩ (.int .u64 (y : Nat)) := ⟨_, rfl⟩
      rw [← hX]
      have hXr : PM X b (.slice (some ⟨g, 0, none⟩) m.code.length c) { m with code := m.code.set k y } := by rw [hX]; exact (HP.out _).1
      have hXs : Save (FT b (.slice (some ⟨g, 0, none⟩) m.code.length c)) w1 X := by rw [hX]; exact ((Save.refl _ w1).drewN (1 + n)).trans (HP.out _).2
      have x2 := blk_cell hXr.blk 2
      have xf := blk_frozen hXr.blk 2
      simp only [pcs, List.getElem?_toArray, List.getElem?_cons_succ, List.getElem?_cons_zero] at x2
      have HXR := Lib.hid hXr
      have HXS := Lib.hid hXs
      clear hX hXr hXs hcell hsoft c4 hc0
      go_wp2_with fail
      have hY := (HXR.out.set 2 (.int .i64 ((m.count + 1 : Nat) : Int)) { m with code := m.code.set k y, count := m.count + 1 } (by simp [pcs]) rfl)
      have HYS := Lib.hid (HXS.out.setCell (p := ⟨b, 2, none⟩) (.inl rfl) (.int .i64 ((m.count + 1 : Nat) : Int)))
      refine (HB.out _ hY HL.out).mono ?_
      rintro r w2 ⟨rfl, hp2, hs2⟩
      have HF := Lib.hid (And.intro hp2 (HYS.out.trans hs2))
      clear hp2 hs2 hY
      go_wp2_with fail
      go_ret
      exact ⟨rfl, HF.out.1, HF.out.2⟩
set_option maxHeartbeats 2000000 in
theorem pflip_mem {w : World} {b : Nat} {v : Value} {m : Mem} (h : PM w b v m) (hm : m.ok) (a bit : Int) :
    Calls Tryd.prog 24 #[.pointer (some ⟨b, 0, none⟩), .int .i64 a, .int .i64 bit] w fun r w' => r = .returned (.int .i64 (m.flipE a bit)) ∧ PM w' b v (m.flip a bit) ∧ Save (FT b v) w w' := by
  have HHAS := Lib.hid (phas_any h a)
  obtain ⟨g, c, rfl, hc1, hc2, hgb⟩ := h.shape hm
  have HH := Lib.hid h
  cases ha : m.has a with
  | false =>
    obtain ⟨hr, hw⟩ := flipE_no (bit := bit) (.inl ha)
    rw [hr, hw]
    rw [ha] at HHAS
    clear ha hr hm h hw
    go_enter Tryd.func24, Tryd.ntmps24
    go_wp2_with fail
    refine HHAS.out.mono ?_
    rintro r w1 ⟨rfl, rfl⟩
    go_wp2_with fail
    go_ret
    exact ⟨rfl, HH.out, Save.refl _ _⟩
  | true =>
    rw [ha] at HHAS
    obtain ⟨k, rfl, hk⟩ := Mem.has_nat ha
    have hki : ¬ (m.code.length : Int) ≤ (k : Int) := by omega
    have hki2 : (k : Int) < (m.code.length : Int) := by omega
    have hk0 : ¬ (k : Int) < 0 := by omega
    have hk1 : (0 : Int) ≤ (k : Int) := by omega
    cases hb : bitIn bit with
    | false =>
      obtain ⟨hr, hw⟩ := flipE_no (m := m) (a := (k : Int)) (.inr hb)
      rw [hr, hw]
      rcases bit_out hb with h1 | h1
      · clear ha hr hm h hw hb
        go_enter Tryd.func24, Tryd.ntmps24
        go_wp2_with fail
        refine HHAS.out.mono ?_
        rintro r w1 ⟨rfl, rfl⟩
        go_wp2_with fail
        go_ret
        exact ⟨rfl, HH.out, Save.refl _ _⟩
      · have h2 : ¬ bit < 0 := by omega
        have h3 : 39 ≤ bit := by omega
        clear ha hr hm h hw hb
        go_enter Tryd.func24, Tryd.ntmps24
        go_wp2_with fail
        refine HHAS.out.mono ?_
        rintro r w1 ⟨rfl, rfl⟩
        go_wp2_with fail
        go_ret
        exact ⟨rfl, HH.out, Save.refl _ _⟩
    | true =>
      have hbb := of_decide_eq_true hb
      have h1 : ¬ bit < 0 := by omega
      have h2 : ¬ 39 ≤ bit := by omega
      have hr : m.flipE k bit = 0 := by unfold Mem.flipE; rw [if_pos ⟨ha, hb⟩]
      have hw : m.flip k bit = { m with code := m.code.set k (m.at k ^^^ 2 ^ bit.toNat) } := by unfold Mem.flip; rw [if_pos ⟨ha, hb⟩, Int.toNat_natCast]
      rw [hr, hw]
      have c0 := blk_cell h.blk 0
      simp only [pcs, List.getElem?_toArray, List.getElem?_cons_zero] at c0
      have hcell := h.code hk
      have hsoft := h.soft k
      have hlt := hm.small k
      have hfl := E.flip_in (m.at k) (b := bit.toNat) (by omega)
      rw [show ((bit.toNat : Nat) : Int) = bit by omega] at hfl
      have hF := fun W => E.pflip_any (m.at k) bit (by omega) W
      rw [hfl] at hF
      have HF := Lib.hid hF
      have HP := Lib.hid (fun n => (h.drewN n).put hgb k (m.at k ^^^ 2 ^ bit.toNat))
      clear ha hr h hw hb hbb hm hlt hfl hF
      generalize m.at k ^^^ 2 ^ bit.toNat = y at *
      generalize m.at k = x at *
      go_enter Tryd.func24, Tryd.ntmps24
      go_wp2_with fail
      refine HHAS.out.mono ?_
      rintro r w1 ⟨rfl, rfl⟩
      go_wp2_with fail
      go_still_tail 15, (by kernel_rfl)
      still_call (HF.out _)
      repeat still_step
      refine wpStill_nil ?_
      change wpList _ _ _ _ _ w1.drew
      go_wp2_with fail
      go_ret
      exact ⟨rfl, (HP.out 1).1, ((Save.refl _ w1).drewN 1).trans (HP.out 1).2⟩
set_option maxHeartbeats 1000000 in
theorem pfuse_any {w : World} {b : Nat} {v : Value} {m : Mem} (h : PM w b v m) (n : Int) :
    Calls Tryd.prog 21 #[.pointer (some ⟨b, 0, none⟩), .int .i64 n] w fun r w' => r = .returned (.tuple #[]) ∧ PM w' b v (m.fuse n) ∧ Save (FT b v) w w' := by
  have c4 := blk_cell h.blk 4
  have f3 := blk_frozen h.blk 3
  have f4 := blk_frozen h.blk 4
  have c3 := blk_cell h.blk 3
  simp only [pcs, List.getElem?_toArray, List.getElem?_cons_succ, List.getElem?_cons_zero] at c3 c4
  have HH := Lib.hid h
  clear h
  cases ho : m.off with
  | true =>
    have hw : m.fuse n = m := by unfold Mem.fuse; rw [if_pos ho]
    rw [hw]
    replace c4 : w.cell? ⟨b, 4, none⟩ = some (.bool false) := by rw [c4, ho]; rfl
    clear ho hw
    go_enter Tryd.func21, Tryd.ntmps21
    go_wp2_with fail
    refine bodyPost_ret (results_none rfl _ _ _) rfl ?_
    exact ⟨rfl, HH.out, Save.refl _ _⟩
  | false =>
    have hw : m.fuse n = { m with left := n.toNat, off := decide (n = 0) } := by unfold Mem.fuse; rw [if_neg (by simp [ho])]
    rw [hw]
    replace c4 : w.cell? ⟨b, 4, none⟩ = some (.bool true) := by rw [c4, ho]; rfl
    clear ho hw
    by_cases hn : n < 0
    · have hm0 : max n 0 = 0 := by omega
      have hn0 : (n == 0) = false := by simp; omega
      have HN : Hid (n.toNat = 0 ∧ decide (n = 0) = false) := Lib.hid ⟨by omega, by simp; omega⟩
      go_enter Tryd.func21, Tryd.ntmps21
      go_wp2_with fail
      go_end0
      refine ⟨rfl, ?_, ((Save.refl _ _).setCell (p := ⟨b, 3, none⟩) (.inl rfl) _).setCell (p := ⟨b, 4, none⟩) (.inl rfl) _⟩
      rw [HN.out.1, HN.out.2]
      exact (HH.out.set 3 _ { m with left := 0 } (by simp [pcs]) rfl).set 4 _ { m with left := 0, off := false } (by simp [pcs]; omega) rfl
    · obtain ⟨k, rfl⟩ : ∃ k : Nat, n = k := ⟨n.toNat, by omega⟩
      have hm0 : max (k : Int) 0 = (k : Int) := by omega
      have HN : Hid (((k : Int) == 0) = decide (k = 0)) := Lib.hid (by rw [Bool.eq_iff_iff]; simp)
      go_enter Tryd.func21, Tryd.ntmps21
      go_wp2_with fail
      go_end0
      refine ⟨rfl, ?_, ((Save.refl _ _).setCell (p := ⟨b, 3, none⟩) (.inl rfl) _).setCell (p := ⟨b, 4, none⟩) (.inl rfl) _⟩
      rw [← HN.out]
      exact (HH.out.set 3 _ { m with left := k } (by simp [pcs]) rfl).set 4 _ { m with left := k, off := ((k : Int) == 0) } (by simp [pcs]; rfl) rfl
set_option maxHeartbeats 1000000 in
theorem preset_any {w : World} {b : Nat} {v : Value} {m : Mem} (h : PM w b v m) :
    Calls Tryd.prog 22 #[.pointer (some ⟨b, 0, none⟩)] w fun r w' => r = .returned (.tuple #[]) ∧ PM w' b v m.reset ∧ Save (FT b v) w w' := by
  have c3 := blk_cell h.blk 3
  have c4 := blk_cell h.blk 4
  have f3 := blk_frozen h.blk 3
  have f4 := blk_frozen h.blk 4
  simp [pcs] at c3 c4
  have HH := Lib.hid h
  clear h
  go_enter Tryd.func22, Tryd.ntmps22
  go_wp2_with fail
  go_end0
  exact ⟨rfl, (HH.out.set 4 _ { m with off := false } (by simp [pcs]) rfl).set 3 _ m.reset (by simp [pcs, Mem.reset]) rfl, ((Save.refl _ _).setCell (p := ⟨b, 4, none⟩) (.inl rfl) _).setCell (p := ⟨b, 3, none⟩) (.inl rfl) _⟩
end M
end Go.Proofs.YtnoohhpajoaaoaaDoor
