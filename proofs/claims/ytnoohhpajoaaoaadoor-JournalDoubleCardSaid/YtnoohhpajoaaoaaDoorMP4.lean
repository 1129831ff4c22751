/-
  Contract of the landed package memory: Clone.
-/
import Derived.Test.YtnoohhpajoaaoaaDoorMP3
import Derived.Laws.Rows
import Derived.Laws.Tables
import Derived.Laws.CopyOwn
namespace Go.Proofs.YtnoohhpajoaaoaaDoor
open Go.RowKit
namespace M
open H
set_option linter.unusedVariables false
set_option maxRecDepth 100000
set_option maxHeartbeats 4000000 in
theorem pclone_any {w : World} {b : Nat} {v : Value} {m : Mem} (h : PM w b v m) (hm : m.ok) :
    Calls Tryd.prog 33 #[.pointer (some ⟨b, 0, none⟩)] w (ClonePost PM m w) := by
  obtain ⟨g, c, rfl, hc1, hc2, hgb⟩ := h.shape hm
  have c0 := blk_cell h.blk 0
  have c1 := blk_cell h.blk 1
  have c2 := blk_cell h.blk 2
  have c3 := blk_cell h.blk 3
  have c4 := blk_cell h.blk 4
  simp only [pcs, List.getElem?_toArray, List.getElem?_cons_succ, List.getElem?_cons_zero] at c0 c1 c2 c3 c4
  have hlt := blk_lt h.blk
  have hmost := hm.most
  have hpos := hm.pos
  have HH := Lib.hid h
  clear h hm
  obtain ⟨i0, hi, hz0, hz1, hz2⟩ := info_parts infoW
  obtain ⟨W1, hW1⟩ : ∃ W1, W1 = w.alloc (.cells #[.slice (some ⟨g, 0, none⟩) m.code.length c, .int .i64 (m.next : Nat), .int .i64 (m.count : Nat), .int .i64 (m.left : Nat), .bool (!m.off)] 70) := ⟨_, rfl⟩
  obtain ⟨W2, hW2⟩ : ∃ W2, W2 = W1.alloc (.cells (madeCells (Value.int .u64 0).cells (m.code.length * i0.size)) 75) := ⟨_, rfl⟩
  have hs1 : W1.heap.size = w.heap.size + 1 := by rw [hW1]; simp
  have hmk := run_makeSlice (P := Tryd.prog) W1 68 75 i0 (.int .u64 0) Tryd.underlying68 hi hz0 .i64 .i64 (m.code.length : Int) (m.code.length : Int) (by omega) (Int.le_refl _) (by rw [hz1, Int.toNat_natCast]; omega) (by rw [hz2]; omega) (by omega)
  rw [Int.toNat_natCast, ← hW2, hs1, hW1] at hmk
  have hw2 : W2.heap[w.heap.size]? = some (.cells (pcs (.slice (some ⟨g, 0, none⟩) m.code.length c) m) 70 (0, 0)) := by
    have h1 : W1.heap[w.heap.size]? = some (.cells (pcs (.slice (some ⟨g, 0, none⟩) m.code.length c) m) 70 (0, 0)) := by rw [hW1]; exact heap_alloc_new w _
    have h2 : W2.heap[w.heap.size]? = W1.heap[w.heap.size]? := by rw [hW2]; exact ((Below.refl W1.heap.size W1).alloc (Nat.le_refl _) _).block _ (by omega)
    exact h2.trans h1
  have z0 := blk_cell hw2 0
  have zf := blk_frozen hw2 0
  simp only [pcs, List.getElem?_toArray, List.getElem?_cons_zero] at z0
  obtain ⟨X, hX⟩ : ∃ X, X = W2.setCell ⟨w.heap.size, 0, none⟩ (.slice (some ⟨w.heap.size + 1, 0, none⟩) m.code.length m.code.length) := ⟨_, rfl⟩
  have hxa : X.heap[w.heap.size]? = some (.cells (pcs (.slice (some ⟨w.heap.size + 1, 0, none⟩) m.code.length m.code.length) m) 70 (0, 0)) := by
    rw [hX]
    exact blk_set hw2 0 _
  have hxb : X.heap[w.heap.size + 1]? = some (.cells (madeCells (Value.int .u64 0).cells (m.code.length * 1)) 75 (0, 0)) := by
    have h2 : W2.heap[w.heap.size + 1]? = some (.cells (madeCells (Value.int .u64 0).cells (m.code.length * 1)) 75 (0, 0)) := by rw [hW2, ← hs1, hz1]; exact heap_alloc_new W1 _
    rw [hX]
    exact (Below.heap_setCell _ _ _ _ (by show _ ≠ w.heap.size; omega)).trans h2
  have hxB : Below w.heap.size w X := by
    rw [hX, hW2, hW1]
    exact ((((Below.refl w.heap.size w).alloc (Nat.le_refl _) _).alloc (by simp) _).setCell (p := ⟨w.heap.size, 0, none⟩) (Nat.le_refl _) _)
  have hxp := HH.out.keep hxB
  have x0 := blk_cell hxp.blk 0
  have y0 := blk_cell hxa 0
  simp only [pcs, List.getElem?_toArray, List.getElem?_cons_zero] at x0 y0
  have HXA := Lib.hid hxa
  have HXB := Lib.hid hxb
  have HXBB := Lib.hid hxB
  have HXP := Lib.hid hxp
  have HXE := Lib.hid hX
  clear hW1 hW2 hxa hxb hxB hxp hs1 hX hw2
  go_enter Tryd.func33, Tryd.ntmps33
  go_wp2_with fail
  rw [← HXE.out]
  go_still_tail 6, (by kernel_rfl)
  change wpList _ _ _ _ _ X.drew
  refine wpList_copy_own rfl (.tmp 15) (.tmp 19) 68 68 rfl 75 Tryd.underlying68 (by rw [hi]; simp [hz1]) (w.heap.size + 1) 0 m.code.length m.code.length ⟨g, 0, none⟩ m.code.length c rfl rfl _ 75 (show X.drew.heap[w.heap.size + 1]? = _ from HXB.out) (codeC m) (by rw [codeC_len]; exact (Nat.min_self _).symm) ?_ (by rw [codeC_len, size_madeCells]; omega) (by unfold codeC; simp [Value.oneCell']) ?_
  · intro j u hu
    have hj : j < m.code.length := by rw [← codeC_len]; exact (List.getElem?_eq_some_iff.1 hu).1
    have e : (⟨g, 0, none⟩ : Addr).add j = ⟨g, j, none⟩ := by unfold Addr.add; split <;> simp_all
    rw [e]
    show X.cell? _ = _
    rw [HXP.out.code hj, ← codeC_at m hj, hu]
  have hcells : (madeCells (Value.int .u64 0).cells (m.code.length * 1)).toList.take 0 ++ (codeC m ++ (madeCells (Value.int .u64 0).cells (m.code.length * 1)).toList.drop (0 + (codeC m).length)) = codeC m := by
    rw [List.drop_of_length_le (by rw [codeC_len, Array.length_toList, size_madeCells]; omega)]
    simp
  rw [hcells]
  have hfin : Made PM w (X.drew.setRow (w.heap.size + 1) (codeC m).toArray) w.heap.size (.slice (some ⟨w.heap.size + 1, 0, none⟩) m.code.length m.code.length) m := by
    refine ⟨⟨(setRow_other X.drew (w.heap.size + 1) w.heap.size _ (by omega)).trans HXA.out, ?_⟩, fun k hk => ?_, below_setRow HXBB.out.drew (by omega) _⟩
    · have h1 := setRow_heap X.drew (w.heap.size + 1) _ (codeC m).toArray 75 _ (show X.drew.heap[w.heap.size + 1]? = _ from HXB.out)
      rw [codeC_len]
      exact ⟨by rw [codeC_len]; omega, .inr ⟨w.heap.size + 1, m.code.length, (codeC m).toArray, rfl, Nat.zero_le _, h1, Nat.le_refl _, by unfold maxLen; omega, by simp [codeC_len], by simp [List.take_of_length_le (Nat.le_of_eq (codeC_len m))]⟩⟩
    · rcases hk with rfl | hk
      · exact Nat.le_refl _
      · have : w.heap.size + 1 = k := by simpa [Value.ownBlock] using hk
        omega
  have HF := Lib.hid hfin
  clear hfin hcells
  go_wp2_with fail
  go_ret
  exact ⟨_, _, rfl, HF.out⟩
end M
end Go.Proofs.YtnoohhpajoaaoaaDoor
