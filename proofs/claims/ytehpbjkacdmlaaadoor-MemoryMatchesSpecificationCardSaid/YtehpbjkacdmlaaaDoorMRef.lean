/-
  Contracts of the specification of layer 6: Read, Write, Flip, Fuse, Reset.
-/
import Derived.Test.YtehpbjkacdmlaaaDoorFoot
import Derived.Test.YtehpbjkacdmlaaaDoorMMath
import Derived.Test.YtehpbjkacdmlaaaDoorEProg2
import Derived.StillTailTactics
namespace Go.Proofs.YtehpbjkacdmlaaaDoor
open Go.RowKit
namespace M
open H
set_option linter.unusedVariables false
set_option maxRecDepth 100000
def codeC (m : Mem) : List Value := m.code.map fun (c : Nat) => Value.int .u64 (c : Int)
theorem codeC_len (m : Mem) : (codeC m).length = m.code.length := List.length_map _
theorem codeC_at (m : Mem) {k : Nat} (h : k < m.code.length) : (codeC m)[k]? = some (.int .u64 ((m.at k : Nat) : Int)) := by
  unfold codeC Mem.at
  rw [List.getElem?_map, List.getElem?_eq_getElem h]; rfl
theorem codeC_set (m : Mem) (k c : Nat) : (codeC m).set k (.int .u64 (c : Int)) = (m.code.set k c).map fun (c : Nat) => Value.int .u64 (c : Int) := by
  unfold codeC
  rw [List.map_set]
/-- The cells of a specification's memory. -/
def rcs (v : Value) (m : Mem) : Array Value := #[v, .int .i64 (m.next : Nat), .int .i64 (m.count : Nat), .int .i64 (m.left : Nat), .bool m.off]
/-- At block b there is a memory of the specification that holds m. -/
def RM (w : World) (b : Nat) (v : Value) (m : Mem) : Prop := Obj1 74 51 w b (rcs v m) v (codeC m)
theorem RM.shape {w : World} {b : Nat} {v : Value} {m : Mem} (h : RM w b v m) (hm : m.ok) : ∃ g c, v = .slice (some ⟨g, 0, none⟩) m.code.length c ∧ m.code.length ≤ c ∧ c ≤ maxLen ∧ g ≠ b := by
  obtain ⟨g, c, h⟩ := Obj1.shape h (by rw [codeC_len]; exact hm.pos)
  rw [codeC_len] at h
  rcases h with h | h
  · exact ⟨g, c, h⟩
  · exact absurd h (by decide)
theorem RM.own' {w : World} {b : Nat} {v : Value} {m : Mem} (h : RM w b v m) : w.ownsRow 0 51 1 v m.code.length (codeC m) := codeC_len m ▸ h.own
theorem RM.code {w : World} {b g c : Nat} {m : Mem} (h : RM w b (.slice (some ⟨g, 0, none⟩) m.code.length c) m) {k : Nat} (hk : k < m.code.length) : w.cell? ⟨g, k, none⟩ = some (.int .u64 ((m.at k : Nat) : Int)) := by
  rw [h.own'.cellAt k (by omega), codeC_at m hk]
theorem RM.soft {w : World} {b g c : Nat} {m : Mem} (h : RM w b (.slice (some ⟨g, 0, none⟩) m.code.length c) m) (k : Nat) : w.frozen? ⟨g, k, none⟩ = false := h.own'.frozenAt k
theorem has_false {m : Mem} {a : Int} (h : m.has a = false) : a < 0 ∨ (m.code.length : Int) ≤ a := by
  have := of_decide_eq_false h
  omega
set_option maxHeartbeats 1000000 in
theorem rread_any {w : World} {b : Nat} {v : Value} {m : Mem} (h : RM w b v m) (hm : m.ok) (a : Int) :
    Calls Tryd.prog 33 #[.pointer (some ⟨b, 0, none⟩), .int .i64 a] w fun r w' => r = .returned (.tuple #[.int .u32 (m.readR a).1, .int .i64 (m.readR a).2]) ∧ w' = w := by
  obtain ⟨g, c, rfl, hc1, hc2, hgb⟩ := h.shape hm
  have c0 := blk_cell h.blk 0
  simp [rcs] at c0
  cases ha : m.has a with
  | false =>
    have hr : m.readR a = (0, 5) := by unfold Mem.readR; rw [ha]; rfl
    rw [hr]
    rcases has_false ha with h1 | h1
    · clear ha hr hm h
      go_enter Tryd.func33, Tryd.ntmps33
      go_wp2_with fail
      go_ret2
      exact ⟨rfl, rfl⟩
    · clear ha hr hm h
      go_enter Tryd.func33, Tryd.ntmps33
      go_wp2_with fail
      all_goals
        go_ret2
        exact ⟨rfl, rfl⟩
  | true =>
    obtain ⟨k, rfl, hk⟩ := Mem.has_nat ha
    have hcell := h.code hk
    have hlt := hm.small k
    have HD := Lib.hid (E.rdec_any (m.at k) (by omega) w)
    have hr : m.readR k = if (E.dec (m.at k)).2 = 2 then (0, 20) else ((E.dec (m.at k)).1, 0) := by unfold Mem.readR; rw [if_pos ha, Int.toNat_natCast]
    rw [hr]
    have hki : ¬ (m.code.length : Int) ≤ (k : Int) := by omega
    have hki2 : (k : Int) < (m.code.length : Int) := by omega
    have hk0 : ¬ (k : Int) < 0 := by omega
    have hk1 : (0 : Int) ≤ (k : Int) := by omega
    clear ha hr hm h hlt
    generalize m.at k = x at *
    generalize hy : E.dec x = y at *
    clear hy
    obtain ⟨y1, y2⟩ := y
    dsimp only at HD ⊢
    by_cases hs : y2 = 2
    · rw [if_pos hs]
      subst hs
      go_enter Tryd.func33, Tryd.ntmps33
      go_wp2_with fail
      refine HD.out.mono ?_
      rintro r w1 ⟨rfl, rfl⟩
      go_wp2_with fail
      go_ret2
      exact ⟨rfl, rfl⟩
    · rw [if_neg hs]
      have hsi : (((y2 : Nat) : Int) == 2) = false := by simp; omega
      clear hs
      go_enter Tryd.func33, Tryd.ntmps33
      go_wp2_with fail
      refine HD.out.mono ?_
      rintro r w1 ⟨rfl, rfl⟩
      go_wp2_with fail
      go_ret2
      exact ⟨rfl, rfl⟩
theorem RM.save {w w' : World} {b : Nat} {v : Value} {m : Mem} {F : Nat → Prop} (h : RM w b v m) (hs : Save F w w') (hF : ∀ k, FT b v k → ¬ F k) : RM w' b v m := Obj1.save h hs hF
theorem RM.drewN {w : World} {b : Nat} {v : Value} {m : Mem} (h : RM w b v m) (n : Nat) : RM (w.drewN n) b v m := Obj1.drewN h n
theorem RM.drew {w : World} {b : Nat} {v : Value} {m : Mem} (h : RM w b v m) : RM w.drew b v m := Obj1.as h fun _ _ => rfl
/-- A word is stored. -/
theorem RM.put {w : World} {b g c : Nat} {m : Mem} (h : RM w b (.slice (some ⟨g, 0, none⟩) m.code.length c) m) (hne : g ≠ b) (k x : Nat) :
    RM (w.setCell ⟨g, k, none⟩ (.int .u64 (x : Int))) b (.slice (some ⟨g, 0, none⟩) m.code.length c) { m with code := m.code.set k x } ∧ Save (FT b (.slice (some ⟨g, 0, none⟩) m.code.length c)) w (w.setCell ⟨g, k, none⟩ (.int .u64 (x : Int))) := by
  refine ⟨⟨?_, ?_⟩, (Save.refl _ _).setCell (p := ⟨g, k, none⟩) (.inr rfl) _⟩
  · have := h.blk
    rw [Below.heap_setCell _ _ _ _ (fun e => hne e.symm)]
    exact this
  · have := (h.own'.stored k (.int .u64 (x : Int))).1
    rw [codeC_len]
    unfold codeC
    rw [← codeC_set]
    show w.setCell ⟨g, k, none⟩ (.int .u64 (x : Int)) |>.ownsRow 0 _ 1 _ (m.code.set k x).length _
    rw [List.length_set]
    exact this
/-- A field is stored. -/
theorem RM.set {w : World} {b : Nat} {v : Value} {m : Mem} (h : RM w b v m) (i : Nat) (u : Value) (m' : Mem) (he : (rcs v m).setIfInBounds i u = rcs v m') (hc : m'.code = m.code) : RM (w.setCell ⟨b, i, none⟩ u) b v m' := by
  have := Obj1.field h (by decide) i u
  rw [he] at this
  unfold RM codeC
  rw [hc]
  exact this
set_option maxHeartbeats 1000000 in
theorem rwrite_any {w : World} {b : Nat} {v : Value} {m : Mem} (h : RM w b v m) (hm : m.ok) (hcnt : m.count < 1000000) (a : Int) (x : Nat) (hx : x < 4294967296) :
    Calls Tryd.prog 25 #[.pointer (some ⟨b, 0, none⟩), .int .i64 a, .int .u32 x] w fun r w' => r = .returned (.int .i64 (m.writeE a)) ∧ RM w' b v (m.write a x) ∧ Save (FT b v) w w' := by
  obtain ⟨g, c, rfl, hc1, hc2, hgb⟩ := h.shape hm
  have c0 := blk_cell h.blk 0
  have c4 := blk_cell h.blk 4
  simp [rcs] at c0 c4
  have HH := Lib.hid h
  have HE := Lib.hid (fun W => E.renc_any x hx W)
  cases ha : m.has a with
  | false =>
    have hr : m.writeE a = 5 := by unfold Mem.writeE; rw [ha]; rfl
    have hw : m.write a x = m := by unfold Mem.write; rw [ha]; rfl
    rw [hr, hw]
    rcases has_false ha with h1 | h1
    · clear ha hr hm h hw hx
      go_enter Tryd.func25, Tryd.ntmps25
      go_wp2_with fail
      go_ret
      exact ⟨rfl, HH.out, Save.refl _ _⟩
    · clear ha hr hm h hw hx
      go_enter Tryd.func25, Tryd.ntmps25
      go_wp2_with fail
      all_goals
        go_ret
        exact ⟨rfl, HH.out, Save.refl _ _⟩
  | true =>
    obtain ⟨k, rfl, hk⟩ := Mem.has_nat ha
    have hki : ¬ (m.code.length : Int) ≤ (k : Int) := by omega
    have hki2 : (k : Int) < (m.code.length : Int) := by omega
    have hk0 : ¬ (k : Int) < 0 := by omega
    have hk1 : (0 : Int) ≤ (k : Int) := by omega
    cases ho : m.off with
    | true =>
      have hr : m.writeE k = 21 := by unfold Mem.writeE; rw [ha, ho]; rfl
      have hw : m.write k x = m := by unfold Mem.write; rw [ho]; simp
      rw [hr, hw]
      rw [ho] at c4
      clear ha hr hm h hw hx ho
      go_enter Tryd.func25, Tryd.ntmps25
      go_wp2_with fail
      go_ret
      exact ⟨rfl, HH.out, Save.refl _ _⟩
    | false =>
      have hr : m.writeE k = 0 := by unfold Mem.writeE; rw [ha, ho]; rfl
      have hw : m.write k x = { m with code := m.code.set k (E.enc x), count := m.count + 1, left := m.left - 1, off := decide (m.left = 1) } := by unfold Mem.write; rw [if_pos ⟨ha, ho⟩, Int.toNat_natCast]
      rw [hr, hw]
      rw [ho] at c4
      have hcell := h.code hk
      have hsoft := h.soft k
      have hp := h.put hgb k (E.enc x)
      have d2 := blk_cell hp.1.blk 2
      have d3 := blk_cell hp.1.blk 3
      have f2 := blk_frozen hp.1.blk 2
      have f3 := blk_frozen hp.1.blk 3
      have f4 := blk_frozen hp.1.blk 4
      have d4 := blk_cell hp.1.blk 4
      simp only [rcs, List.getElem?_toArray, List.getElem?_cons_succ, List.getElem?_cons_zero] at d2 d3 d4
      have HP := Lib.hid hp
      have HO := Lib.hid ho
      clear ha hr h hw hx ho hp
      generalize E.enc x = y at *
      by_cases hl : m.left = 0
      · have HLE := Lib.hid hl
        rw [hl] at d3
        have hl0 : ¬ (0 : Int) < ((0 : Nat) : Int) := by omega
        clear hl
        go_enter Tryd.func25, Tryd.ntmps25
        go_wp2_with fail
        go_still_tail 8, (by kernel_rfl)
        still_call (HE.out _)
        repeat still_step
        refine wpStill_nil ?_
        change wpList _ _ _ _ _ w.drew
        go_wp2_with fail
        go_ret
        refine ⟨rfl, RM.drew ((HP.out.1.set 2 _ { m with code := m.code.set k y, count := m.count + 1, left := m.left - 1, off := decide (m.left = 1) } ?_ rfl)), ((HP.out.2.setCell (p := ⟨b, 2, none⟩) (.inl rfl) _).drew)⟩
        have := HLE.out
        simp [rcs, this, HO.out]
      · have hl1 : (0 : Int) < ((m.left : Nat) : Int) := by omega
        have hwl : wrap64 ((m.left : Int) - 1) = ((m.left - 1 : Nat) : Int) := by have := hm.left; unfold wrap64; omega
        clear hl hm
        go_enter Tryd.func25, Tryd.ntmps25
        go_wp2_with fail
        go_still_tail 8, (by kernel_rfl)
        still_call (HE.out _)
        repeat still_step
        refine wpStill_nil ?_
        change wpList _ _ _ _ _ w.drew
        go_wp2_with fail
        go_ret
        refine ⟨rfl, RM.drew (((HP.out.1.set 2 _ { m with code := m.code.set k y, count := m.count + 1 } ?_ rfl).set 3 _ { m with code := m.code.set k y, count := m.count + 1, left := m.left - 1 } ?_ rfl).set 4 _ { m with code := m.code.set k y, count := m.count + 1, left := m.left - 1, off := decide (m.left = 1) } ?_ rfl), (((HP.out.2.setCell (p := ⟨b, 2, none⟩) (.inl rfl) _).setCell (p := ⟨b, 3, none⟩) (.inl rfl) _).setCell (p := ⟨b, 4, none⟩) (.inl rfl) _).drew⟩
        · simp [rcs]
        · simp [rcs]
        · have hb : (((m.left - 1 : Nat) : Int) == 0) = decide (m.left = 1) := by rw [Bool.eq_iff_iff]; simp; omega
          simp [rcs, ← hb]
theorem bit_out {bit : Int} (h : bitIn bit = false) : bit < 0 ∨ 38 < bit := by
  have := of_decide_eq_false h
  omega
theorem flipE_no {m : Mem} {a bit : Int} (h : m.has a = false ∨ bitIn bit = false) : m.flipE a bit = 5 ∧ m.flip a bit = m := by
  have : ¬ (m.has a = true ∧ bitIn bit = true) := by rcases h with h | h <;> simp [h]
  exact ⟨by unfold Mem.flipE; rw [if_neg this], by unfold Mem.flip; rw [if_neg this]⟩
set_option maxHeartbeats 1000000 in
theorem rflip_mem {w : World} {b : Nat} {v : Value} {m : Mem} (h : RM w b v m) (hm : m.ok) (a bit : Int) :
    Calls Tryd.prog 34 #[.pointer (some ⟨b, 0, none⟩), .int .i64 a, .int .i64 bit] w fun r w' => r = .returned (.int .i64 (m.flipE a bit)) ∧ RM w' b v (m.flip a bit) ∧ Save (FT b v) w w' := by
  obtain ⟨g, c, rfl, hc1, hc2, hgb⟩ := h.shape hm
  have c0 := blk_cell h.blk 0
  simp [rcs] at c0
  have HH := Lib.hid h
  cases ha : m.has a with
  | false =>
    obtain ⟨hr, hw⟩ := flipE_no (bit := bit) (.inl ha)
    rw [hr, hw]
    rcases has_false ha with h1 | h1
    · clear ha hr hm h hw
      go_enter Tryd.func34, Tryd.ntmps34
      go_wp2_with fail
      go_ret
      exact ⟨rfl, HH.out, Save.refl _ _⟩
    · clear ha hr hm h hw
      go_enter Tryd.func34, Tryd.ntmps34
      go_wp2_with fail
      all_goals
        go_ret
        exact ⟨rfl, HH.out, Save.refl _ _⟩
  | true =>
    obtain ⟨k, rfl, hk⟩ := Mem.has_nat ha
    have hki : ¬ (m.code.length : Int) ≤ (k : Int) := by omega
    have hki2 : (k : Int) < (m.code.length : Int) := by omega
    have hk0 : ¬ (k : Int) < 0 := by omega
    have hk1 : (0 : Int) ≤ (k : Int) := by omega
    cases hb : bitIn bit with
    | false =>
      obtain ⟨hr, hw⟩ := flipE_no (m := m) (a := (k : Int)) (.inr hb)
      rw [hr, hw]
      rcases bit_out hb with h1 | h1
      · clear ha hr hm h hw hb
        go_enter Tryd.func34, Tryd.ntmps34
        go_wp2_with fail
        go_ret
        exact ⟨rfl, HH.out, Save.refl _ _⟩
      · have h2 : ¬ bit < 0 := by omega
        clear ha hr hm h hw hb
        go_enter Tryd.func34, Tryd.ntmps34
        go_wp2_with fail
        go_ret
        exact ⟨rfl, HH.out, Save.refl _ _⟩
    | true =>
      have hbb := of_decide_eq_true hb
      have h1 : ¬ bit < 0 := by omega
      have h2 : ¬ 38 < bit := by omega
      have hr : m.flipE k bit = 0 := by unfold Mem.flipE; rw [if_pos ⟨ha, hb⟩]
      have hw : m.flip k bit = { m with code := m.code.set k (m.at k ^^^ 2 ^ bit.toNat) } := by unfold Mem.flip; rw [if_pos ⟨ha, hb⟩, Int.toNat_natCast]
      rw [hr, hw]
      have hcell := h.code hk
      have hsoft := h.soft k
      have hlt := hm.small k
      have hfl := E.flip_in (m.at k) (b := bit.toNat) (by omega)
      rw [show ((bit.toNat : Nat) : Int) = bit by omega] at hfl
      have hF := fun W => E.rflip_any (m.at k) bit (by omega) W
      rw [hfl] at hF
      have HF := Lib.hid hF
      have HP := Lib.hid (h.put hgb k (m.at k ^^^ 2 ^ bit.toNat))
      clear ha hr h hw hb hbb hm hlt hfl hF
      generalize m.at k ^^^ 2 ^ bit.toNat = y at *
      generalize m.at k = x at *
      go_enter Tryd.func34, Tryd.ntmps34
      go_wp2_with fail
      go_still_tail 15, (by kernel_rfl)
      still_call (HF.out _)
      repeat still_step
      refine wpStill_nil ?_
      change wpList _ _ _ _ _ w.drew
      go_wp2_with fail
      go_ret
      exact ⟨rfl, RM.drew HP.out.1, HP.out.2.drew⟩
set_option maxHeartbeats 1000000 in
theorem rfuse_any {w : World} {b : Nat} {v : Value} {m : Mem} (h : RM w b v m) (n : Int) :
    Calls Tryd.prog 36 #[.pointer (some ⟨b, 0, none⟩), .int .i64 n] w fun r w' => r = .returned (.tuple #[]) ∧ RM w' b v (m.fuse n) ∧ Save (FT b v) w w' := by
  have c3 := blk_cell h.blk 3
  have c4 := blk_cell h.blk 4
  have f3 := blk_frozen h.blk 3
  have f4 := blk_frozen h.blk 4
  simp [rcs] at c3 c4
  have HH := Lib.hid h
  clear h
  cases ho : m.off with
  | true =>
    have hw : m.fuse n = m := by unfold Mem.fuse; rw [if_pos ho]
    rw [hw]
    rw [ho] at c4
    clear ho hw
    go_enter Tryd.func36, Tryd.ntmps36
    go_wp2_with fail
    go_end0
    exact ⟨rfl, HH.out, Save.refl _ _⟩
  | false =>
    have hw : m.fuse n = { m with left := n.toNat, off := decide (n = 0) } := by unfold Mem.fuse; rw [if_neg (by simp [ho])]
    rw [hw]
    rw [ho] at c4
    clear ho hw
    by_cases hn : n < 0
    · have hm0 : max n 0 = 0 := by omega
      have hn0 : (n == 0) = false := by simp; omega
      have HN : Hid (n.toNat = 0 ∧ decide (n = 0) = false) := Lib.hid ⟨by omega, by simp; omega⟩
      go_enter Tryd.func36, Tryd.ntmps36
      go_wp2_with fail
      go_end0
      refine ⟨rfl, ?_, ((Save.refl _ _).setCell (p := ⟨b, 3, none⟩) (.inl rfl) _).setCell (p := ⟨b, 4, none⟩) (.inl rfl) _⟩
      rw [HN.out.1, HN.out.2]
      exact (HH.out.set 3 _ { m with left := 0 } (by simp [rcs]) rfl).set 4 _ { m with left := 0, off := false } (by simp [rcs]) rfl
    · obtain ⟨k, rfl⟩ : ∃ k : Nat, n = k := ⟨n.toNat, by omega⟩
      have hm0 : max (k : Int) 0 = (k : Int) := by omega
      have HN : Hid (((k : Int) == 0) = decide (k = 0)) := Lib.hid (by rw [Bool.eq_iff_iff]; simp)
      go_enter Tryd.func36, Tryd.ntmps36
      go_wp2_with fail
      go_end0
      refine ⟨rfl, ?_, ((Save.refl _ _).setCell (p := ⟨b, 3, none⟩) (.inl rfl) _).setCell (p := ⟨b, 4, none⟩) (.inl rfl) _⟩
      rw [← HN.out]
      exact (HH.out.set 3 _ { m with left := k } (by simp [rcs]) rfl).set 4 _ { m with left := k, off := ((k : Int) == 0) } (by simp [rcs]) rfl
set_option maxHeartbeats 1000000 in
theorem rreset_any {w : World} {b : Nat} {v : Value} {m : Mem} (h : RM w b v m) :
    Calls Tryd.prog 37 #[.pointer (some ⟨b, 0, none⟩)] w fun r w' => r = .returned (.tuple #[]) ∧ RM w' b v m.reset ∧ Save (FT b v) w w' := by
  have c3 := blk_cell h.blk 3
  have c4 := blk_cell h.blk 4
  have f3 := blk_frozen h.blk 3
  have f4 := blk_frozen h.blk 4
  simp [rcs] at c3 c4
  have HH := Lib.hid h
  clear h
  go_enter Tryd.func37, Tryd.ntmps37
  go_wp2_with fail
  go_end0
  exact ⟨rfl, (HH.out.set 4 _ { m with off := false } (by simp [rcs]) rfl).set 3 _ m.reset (by simp [rcs, Mem.reset]) rfl, ((Save.refl _ _).setCell (p := ⟨b, 4, none⟩) (.inl rfl) _).setCell (p := ⟨b, 3, none⟩) (.inl rfl) _⟩
end M
end Go.Proofs.YtehpbjkacdmlaaaDoor
