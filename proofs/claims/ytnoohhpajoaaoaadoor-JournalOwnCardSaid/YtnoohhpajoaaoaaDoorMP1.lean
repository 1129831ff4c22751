/-
  Contracts of the landed package memory: has, burn, Read, Write, Flip, Fuse, Reset, Len, On, Writes.
-/
import Derived.Test.YtnoohhpajoaaoaaDoorMRef4
namespace Go.Proofs.YtnoohhpajoaaoaaDoor
open Go.RowKit
namespace M
open H
set_option linter.unusedVariables false
set_option maxRecDepth 100000
/-- The cells of a memory of the program. -/
def pcs (v : Value) (m : Mem) : Array Value := #[v, .int .i64 (m.next : Nat), .int .i64 (m.count : Nat), .int .i64 (m.left : Nat), .bool !m.off]
/-- At block b there is a memory of the program that holds m. -/
def PM (w : World) (b : Nat) (v : Value) (m : Mem) : Prop := Obj1 70 75 w b (pcs v m) v (codeC m)
theorem PM.save {w w' : World} {b : Nat} {v : Value} {m : Mem} {F : Nat → Prop} (h : PM w b v m) (hs : Save F w w') (hF : ∀ k, FT b v k → ¬ F k) : PM w' b v m := Obj1.save h hs hF
theorem PM.lt {w : World} {b : Nat} {v : Value} {m : Mem} (h : PM w b v m) : ∀ k, FT b v k → k < w.heap.size := Obj1.lt h
theorem PM.shape {w : World} {b : Nat} {v : Value} {m : Mem} (h : PM w b v m) (hm : m.ok) : ∃ g c, v = .slice (some ⟨g, 0, none⟩) m.code.length c ∧ m.code.length ≤ c ∧ c ≤ maxLen ∧ g ≠ b := by
  obtain ⟨g, c, h⟩ := Obj1.shape h (by rw [codeC_len]; exact hm.pos)
  rw [codeC_len] at h
  rcases h with h | h
  · exact ⟨g, c, h⟩
  · exact absurd h (by decide)
theorem PM.own' {w : World} {b : Nat} {v : Value} {m : Mem} (h : PM w b v m) : w.ownsRow 0 75 1 v m.code.length (codeC m) := codeC_len m ▸ h.own
theorem PM.len {w : World} {b : Nat} {v : Value} {m : Mem} (h : PM w b v m) : ∃ ad c, v = .slice ad m.code.length c := by
  rcases h.own'.2 with ⟨rfl, h0⟩ | ⟨g, cap, cur, rfl, _⟩
  · exact ⟨none, 0, by rw [h0]⟩
  · exact ⟨_, _, rfl⟩
theorem PM.code {w : World} {b g c : Nat} {m : Mem} (h : PM w b (.slice (some ⟨g, 0, none⟩) m.code.length c) m) {k : Nat} (hk : k < m.code.length) : w.cell? ⟨g, k, none⟩ = some (.int .u64 ((m.at k : Nat) : Int)) := by
  rw [h.own'.cellAt k (by omega), codeC_at m hk]
theorem PM.soft {w : World} {b g c : Nat} {m : Mem} (h : PM w b (.slice (some ⟨g, 0, none⟩) m.code.length c) m) (k : Nat) : w.frozen? ⟨g, k, none⟩ = false := h.own'.frozenAt k
theorem PM.drewN {w : World} {b : Nat} {v : Value} {m : Mem} (h : PM w b v m) (n : Nat) : PM (w.drewN n) b v m := Obj1.drewN h n
theorem PM.drew {w : World} {b : Nat} {v : Value} {m : Mem} (h : PM w b v m) : PM w.drew b v m := Obj1.as h fun _ _ => rfl
theorem PM.keep {w w' : World} {b : Nat} {v : Value} {m : Mem} (h : PM w b v m) (hb : Below w.heap.size w w') : PM w' b v m := h.save (F := fun _ => False) (Save.of_below _ hb) (fun _ _ e => e)
/-- A word is stored. -/
theorem PM.put {w : World} {b g c : Nat} {m : Mem} (h : PM w b (.slice (some ⟨g, 0, none⟩) m.code.length c) m) (hne : g ≠ b) (k x : Nat) :
    PM (w.setCell ⟨g, k, none⟩ (.int .u64 (x : Int))) b (.slice (some ⟨g, 0, none⟩) m.code.length c) { m with code := m.code.set k x } ∧ Save (FT b (.slice (some ⟨g, 0, none⟩) m.code.length c)) w (w.setCell ⟨g, k, none⟩ (.int .u64 (x : Int))) := by
  refine ⟨⟨?_, ?_⟩, (Save.refl _ _).setCell (p := ⟨g, k, none⟩) (.inr rfl) _⟩
  · have := h.blk
    rw [Below.heap_setCell _ _ _ _ (fun e => hne e.symm)]
    exact this
  · have := (h.own'.stored k (.int .u64 (x : Int))).1
    rw [codeC_len]
    unfold codeC
    rw [← codeC_set]
    show w.setCell ⟨g, k, none⟩ (.int .u64 (x : Int)) |>.ownsRow 0 _ 1 _ (m.code.set k x).length _
    rw [List.length_set]
    exact this
/-- A field is stored. -/
theorem PM.set {w : World} {b : Nat} {v : Value} {m : Mem} (h : PM w b v m) (i : Nat) (u : Value) (m' : Mem) (he : (pcs v m).setIfInBounds i u = pcs v m') (hc : m'.code = m.code) : PM (w.setCell ⟨b, i, none⟩ u) b v m' := by
  have := Obj1.field h (by decide) i u
  rw [he] at this
  unfold PM codeC
  rw [hc]
  exact this
theorem PM.aside {w : World} {b : Nat} {v : Value} {m : Mem} (h : PM w b v m) {s : Nat} (hs : ¬ FT b v s) (i : Nat) (u : Value) : PM (w.setCell ⟨s, i, none⟩ u) b v m :=
  Obj1.as h fun k hk => Below.heap_setCell _ _ _ _ (by rintro rfl; exact hs hk)
set_option maxHeartbeats 1000000 in
theorem phas_any {w : World} {b : Nat} {v : Value} {m : Mem} (h : PM w b v m) (a : Int) :
    Calls Tryd.prog 41 #[.pointer (some ⟨b, 0, none⟩), .int .i64 a] w fun r w' => r = .returned (.bool (m.has a)) ∧ w' = w := by
  obtain ⟨ad, c, rfl⟩ := h.len
  have c0 := blk_cell h.blk 0
  simp [pcs] at c0
  clear h
  by_cases h0 : 0 ≤ a
  · by_cases h1 : a < (m.code.length : Int)
    · have HR : Hid (m.has a = true) := Lib.hid (by simp [Mem.has, h0, h1])
      go_enter Tryd.func41, Tryd.ntmps41
      go_wp2_with fail
      go_ret
      exact ⟨by rw [HR.out]; rfl, rfl⟩
    · have HR : Hid (m.has a = false) := Lib.hid (by simp [Mem.has]; omega)
      go_enter Tryd.func41, Tryd.ntmps41
      go_wp2_with fail
      go_ret
      exact ⟨by rw [HR.out]; rfl, rfl⟩
  · have HR : Hid (m.has a = false) := Lib.hid (by simp [Mem.has]; omega)
    go_enter Tryd.func41, Tryd.ntmps41
    go_wp2_with fail
    go_ret
    exact ⟨by rw [HR.out]; rfl, rfl⟩
set_option maxHeartbeats 1000000 in
theorem plen_any {w : World} {b : Nat} {v : Value} {m : Mem} (h : PM w b v m) :
    Calls Tryd.prog 36 #[.pointer (some ⟨b, 0, none⟩)] w fun r w' => r = .returned (.int .i64 (m.code.length : Nat)) ∧ w' = w := by
  obtain ⟨ad, c, rfl⟩ := h.len
  have c0 := blk_cell h.blk 0
  simp [pcs] at c0
  clear h
  go_enter Tryd.func36, Tryd.ntmps36
  go_wp2_with fail
  go_ret
  exact ⟨rfl, rfl⟩
set_option maxHeartbeats 1000000 in
theorem pon_any {w : World} {b : Nat} {v : Value} {m : Mem} (h : PM w b v m) :
    Calls Tryd.prog 13 #[.pointer (some ⟨b, 0, none⟩)] w fun r w' => r = .returned (.bool !m.off) ∧ w' = w := by
  have c4 := blk_cell h.blk 4
  simp only [pcs, List.getElem?_toArray, List.getElem?_cons_succ, List.getElem?_cons_zero] at c4
  clear h
  generalize (!m.off) = x at *
  go_enter Tryd.func13, Tryd.ntmps13
  go_wp2_with fail
  go_ret
  exact ⟨rfl, rfl⟩
set_option maxHeartbeats 1000000 in
theorem pread_any {w : World} {b : Nat} {v : Value} {m : Mem} (h : PM w b v m) (hm : m.ok) (tb : E.Tab w) (a : Int) :
    Calls Tryd.prog 53 #[.pointer (some ⟨b, 0, none⟩), .int .i64 a] w fun r w' => r = .returned (.tuple #[.int .u32 (m.readR a).1, .int .i64 (m.readR a).2]) ∧ ∃ n, w' = w.drewN n := by
  have HHAS := Lib.hid (phas_any h a)
  obtain ⟨g, c, rfl, hc1, hc2, hgb⟩ := h.shape hm
  have c0 := blk_cell h.blk 0
  simp [pcs] at c0
  cases ha : m.has a with
  | false =>
    have hr : m.readR a = (0, 5) := by unfold Mem.readR; rw [ha]; rfl
    rw [hr]
    rw [ha] at HHAS
    clear ha hr hm h tb
    go_enter Tryd.func53, Tryd.ntmps53
    go_wp2_with fail
    refine HHAS.out.mono ?_
    rintro r w1 ⟨rfl, rfl⟩
    go_wp2_with fail
    go_ret2
    exact ⟨rfl, 0, rfl⟩
  | true =>
    rw [ha] at HHAS
    obtain ⟨k, rfl, hk⟩ := Mem.has_nat ha
    have hcell := h.code hk
    have hlt := hm.small k
    have HD := Lib.hid (E.pdec_any (m.at k) (by omega) w tb)
    have hr : m.readR k = if (E.dec (m.at k)).2 = 2 then (0, 20) else ((E.dec (m.at k)).1, 0) := by unfold Mem.readR; rw [if_pos ha, Int.toNat_natCast]
    rw [hr]
    have hki : ¬ (m.code.length : Int) ≤ (k : Int) := by omega
    have hki2 : (k : Int) < (m.code.length : Int) := by omega
    have hk0 : ¬ (k : Int) < 0 := by omega
    have hk1 : (0 : Int) ≤ (k : Int) := by omega
    clear ha hr hm h hlt tb
    generalize m.at k = x at *
    generalize hy : E.dec x = y at *
    clear hy
    obtain ⟨y1, y2⟩ := y
    dsimp only at HD ⊢
    by_cases hs : y2 = 2
    · rw [if_pos hs]
      subst hs
      go_enter Tryd.func53, Tryd.ntmps53
      go_wp2_with fail
      refine HHAS.out.mono ?_
      rintro r w1 ⟨rfl, rfl⟩
      go_wp2_with fail
      refine HD.out.mono ?_
      rintro r w1 ⟨rfl, rfl⟩
      go_wp2_with fail
      go_ret2
      exact ⟨rfl, 0, rfl⟩
    · rw [if_neg hs]
      have hsi : (((y2 : Nat) : Int) == 2) = false := by simp; omega
      clear hs
      go_enter Tryd.func53, Tryd.ntmps53
      go_wp2_with fail
      refine HHAS.out.mono ?_
      rintro r w1 ⟨rfl, rfl⟩
      go_wp2_with fail
      refine HD.out.mono ?_
      rintro r w1 ⟨rfl, rfl⟩
      go_wp2_with fail
      go_ret2
      exact ⟨rfl, 0, rfl⟩
end M
end Go.Proofs.YtnoohhpajoaaoaaDoor
