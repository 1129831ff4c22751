/-
  The chapter's examples hold: lives returns true.
-/
import Derived.Test.YtcgppbbpdnobfaaHRTag
namespace Go.Proofs.Ytcgppbbpdnobfaa
open Go.RowKit Go.Shelf
namespace H

theorem RdI_lit (w : World) (k : IntKind) (e : TypeId) (cs : Array Value) (zs : List Int) (h : cs.toList = zs.map (Value.int k)) : RdI (w.alloc (.cells cs e)) (w.alloc (.cells cs e)).heap.size k (some ⟨w.heap.size, 0, none⟩) zs := by
  intro j hj
  refine ⟨_, rfl, by simp, ?_⟩
  have h4 : (⟨w.heap.size, 0, none⟩ : Addr).add j = ⟨w.heap.size, j, none⟩ := by unfold Addr.add; split <;> simp_all
  have h1 : ((w.alloc (.cells cs e)).heap[w.heap.size]?) = some (.cells cs e (0, 0)) := heap_alloc_new w _
  rw [h4]
  unfold World.cell?
  rw [h1]
  show cs[j]? = _
  rw [← Array.getElem?_toList, h]
  simp [hj]

def lA : ByteArray := { data := #[97] }

theorem ex1 : bytesI (bytesOf lA) [1, 2] = sumI (bytesOf lA) [513, 2] := by
  unfold bytesI
  rw [show words [1, 2] ++ [(([1, 2] : List Int).length : Int)] = [513, 2] by decide]
theorem ex2 : tagI 7 [1, 2] = sumI (bytesOf tagB) [7, 513, 2] := by
  unfold tagI
  rw [show [7] ++ words [1, 2] ++ [(([1, 2] : List Int).length : Int)] = [7, 513, 2] by decide]
theorem ex3 : sumI (bytesOf lA) [5] ≠ sumI (bytesOf lA) [6] := by
  unfold sumI
  intro h
  have := mixI_right.1 (h : mixI _ 5 = mixI _ 6)
  omega
theorem ex4 : mixI 5 gold ≠ mixI 6 gold := by
  intro h
  have := mixI_left.1 h
  omega
theorem byt12 : Byt [1, 2] := by
  intro b hb
  simp at hb
  omega

theorem sum_lit (s : ByteArray) (cs : Array Value) (zs : List Int) (n : Nat) (w : World) (X : Int) (hs : s.size ≤ 4) (h : cs.toList = zs.map (Value.int .i64)) (hl : zs.length = n) (hn : n ≤ 4) (hX : sumI (bytesOf s) zs = X) :
    Calls Try.prog 11 #[.string s, .slice (some ⟨w.heap.size, 0, none⟩) n n] (w.alloc (.cells cs 3)) fun e w' => e = .returned (.int .u64 X) ∧ Below w.heap.size w w' := by
  refine (sum_any s _ n n zs _ (by omega) hl (by omega) (RdI_lit w .i64 3 cs zs h)).mono fun e w' ⟨he, hb⟩ => ⟨he.trans (ret_int hX), ?_⟩
  exact ((Below.refl _ w).alloc (Nat.le_refl _) _).trans (hb.mono (by simp))

set_option maxHeartbeats 1000000 in
theorem lives_any (w : World) : Calls Try.prog 13 #[] w fun e w' => e = .returned (.bool true) ∧ Below w.heap.size w w' := by
  have hB0 : Below w.heap.size w (w.alloc (.cells #[.int .u8 1, .int .u8 2] 5)) := (Below.refl _ w).alloc (Nat.le_refl _) _
  have hr0 := RdI_lit w .u8 5 #[.int .u8 1, .int .u8 2] [1, 2] rfl
  have HR := Lib.hid hr0
  clear hr0
  generalize hw0 : w.alloc (.cells #[.int .u8 1, .int .u8 2] 5) = w0 at hB0 HR
  have HW0 := Lib.hid hw0
  clear hw0
  go_enter Try.func13, Try.ntmps13
  go_wp2_with fail
  rw [HW0.out]
  generalize hX1 : sumI (bytesOf lA) [513, 2] = X1
  have HX1 := Lib.hid hX1
  clear hX1
  refine (bytes_any lA (some ⟨w.heap.size, 0, none⟩) 2 2 [1, 2] _ (by decide) byt12 rfl (by omega) HR.out).mono ?_
  rw [ex1, HX1.out]
  rintro e w1 ⟨rfl, hb1⟩
  have hB1 := hB0.trans (hb1.mono hB0.size)
  go_wp2_with fail
  refine (sum_lit lA #[.int .i64 513, .int .i64 2] [513, 2] 2 w1 X1 (by decide) rfl rfl (by omega) HX1.out).mono ?_
  rintro e w2 ⟨rfl, hb2⟩
  have hB2 := hB1.trans (hb2.mono hB1.size)
  have hr2 := HR.out.below (hb1.mono (Nat.le_refl _) |>.trans (hb2.mono hb1.size))
  have HR2 := Lib.hid hr2
  clear hr2
  go_wp2_with fail
  generalize hX2 : sumI (bytesOf tagB) [7, 513, 2] = X2
  have HX2 := Lib.hid hX2
  clear hX2
  refine (tag_any 7 (some ⟨w.heap.size, 0, none⟩) 2 2 [1, 2] w2 byt12 rfl (by omega) (HR2.out.more (Nat.le_trans hb1.size hb2.size))).mono ?_
  rw [ex2, HX2.out]
  rintro e w3 ⟨rfl, hb3⟩
  have hB3 := hB2.trans (hb3.mono hB2.size)
  go_wp2_with fail
  refine (sum_lit tagB #[.int .i64 7, .int .i64 513, .int .i64 2] [7, 513, 2] 3 w3 X2 (by decide) rfl rfl (by omega) HX2.out).mono ?_
  rintro e w4 ⟨rfl, hb4⟩
  have hB4 := hB3.trans (hb4.mono hB3.size)
  go_wp2_with fail
  have h3 := ex3
  generalize hX3 : sumI (bytesOf lA) [5] = X3 at h3
  generalize hX4 : sumI (bytesOf lA) [6] = X4 at h3
  have HX3 := Lib.hid hX3
  have HX4 := Lib.hid hX4
  clear hX3 hX4
  refine (sum_lit lA #[.int .i64 5] [5] 1 w4 X3 (by decide) rfl rfl (by omega) HX3.out).mono ?_
  rintro e w5 ⟨rfl, hb5⟩
  have hB5 := hB4.trans (hb5.mono hB4.size)
  go_wp2_with fail
  refine (sum_lit lA #[.int .i64 6] [6] 1 w5 X4 (by decide) rfl rfl (by omega) HX4.out).mono ?_
  rintro e w6 ⟨rfl, hb6⟩
  have hB6 := hB5.trans (hb6.mono hB5.size)
  have t3 : (X3 != X4) = true := by simpa using h3
  have t3' : (X3 == X4) = false := by simpa using h3
  have h4 := ex4
  generalize hY5 : mixI 5 gold = Y5 at h4
  generalize hY6 : mixI 6 gold = Y6 at h4
  have HY5 := Lib.hid hY5
  have HY6 := Lib.hid hY6
  have t4 : (Y5 != Y6) = true := by simpa using h4
  have t4' : (Y5 == Y6) = false := by simpa using h4
  clear hY5 hY6 h3 h4
  go_wp2_with fail
  refine (step_any 5 w6).mono ?_
  rw [HY5.out]
  rintro e w' ⟨rfl, rfl⟩
  go_wp2_with fail
  refine (step_any 6 w6).mono ?_
  rw [HY6.out]
  rintro e w' ⟨rfl, rfl⟩
  go_wp2_with fail
  go_ret
  exact ⟨rfl, hB6⟩

end H
end Go.Proofs.Ytcgppbbpdnobfaa
