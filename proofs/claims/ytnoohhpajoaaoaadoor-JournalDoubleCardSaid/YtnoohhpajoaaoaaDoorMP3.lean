/-
  Contract of the landed package memory: New.
-/
import Derived.Test.YtnoohhpajoaaoaaDoorMP2
import Derived.Deep.LoopGhost
import Derived.Laws.OwnMore
import Derived.OwnWalk
namespace Go.Proofs.YtnoohhpajoaaoaaDoor
open Go.RowKit
namespace M
open H
set_option linter.unusedVariables false
set_option maxRecDepth 100000
theorem made_rep (n : Nat) : (madeCells (Value.int .u64 0).cells (n * 1)).toList = List.replicate n (.int .u64 0) := by
  apply List.ext_getElem
  · simp [madeCells]
  · intro i h1 h2
    simp [madeCells, Value.cells, Nat.mod_one]
theorem set_rep (n k : Nat) : (List.replicate n (Value.int .u64 0)).set k (.int .u64 0) = List.replicate n (.int .u64 0) := by
  apply List.ext_getElem
  · simp
  · intro i h1 h2
    simp
theorem own_drewN {w : World} {base n : Nat} {e : TypeId} {v : Value} {xs : List Value} (h : w.ownsRow base e 1 v n xs) (k : Nat) : (w.drewN k).ownsRow base e 1 v n xs := own_as h fun _ _ => rfl
/-- A memory that was put together out of an own row. -/
theorem made_new {w w9 : World} {n g cap : Nat} (hown : w9.ownsRow 0 75 1 (.slice (some ⟨g, 0, none⟩) n cap) n (List.replicate n (.int .u64 0))) (hg : w.heap.size ≤ g) (hB : Below w.heap.size w w9) :
    Made PM w (w9.alloc (.cells (pcs (.slice (some ⟨g, 0, none⟩) n cap) (Mem.new n)) 70)) w9.heap.size (.slice (some ⟨g, 0, none⟩) n cap) (Mem.new n) := by
  refine ⟨⟨heap_alloc_new _ _, ?_⟩, fun k hk => ?_, hB.alloc hB.size _⟩
  · rw [codeC_new, List.length_replicate]
    exact own_alloc hown _
  · rcases hk with rfl | hk
    · exact hB.size
    · have : g = k := by simpa [Value.ownBlock] using hk
      omega
set_option maxHeartbeats 4000000 in
theorem pnew_any (n : Int) (w : World) (tb : E.Tab w) : Calls Tryd.prog 34 #[.int .i64 n] w (NewPost PM n w) := by
  by_cases hn : 1 ≤ n ∧ n ≤ 4096
  · obtain ⟨h1, h2⟩ := hn
    obtain ⟨l, rfl⟩ : ∃ l : Nat, n = l := ⟨n.toNat, by omega⟩
    have HK := Lib.hid (show 1 ≤ l ∧ l ≤ 4096 by omega)
    have hlm : l ≤ 4096 := by omega
    obtain ⟨i0, hi, hz0, hz1, hz2⟩ := info_parts infoW
    have HE := Lib.hid (fun W (hW : Below w.heap.size w W) => E.penc_any 0 (by decide) W (tb.below tb.pos hW))
    rw [enc_zero] at HE
    clear tb
    obtain ⟨w3, hw3⟩ : ∃ w3, w3 = w.alloc (.cells (madeCells (Value.int .u64 0).cells (l * i0.size)) 75) := ⟨_, rfl⟩
    have hmk := run_makeSlice (P := Tryd.prog) w 68 75 i0 (.int .u64 0) Tryd.underlying68 hi hz0 .i64 .i64 (l : Int) (l : Int) (by omega) (Int.le_refl _) (by rw [hz1, Int.toNat_natCast]; omega) (by rw [hz2]; omega) (by omega)
    rw [Int.toNat_natCast, ← hw3] at hmk
    have HO3 := Lib.hid (show w3.ownsRow 0 75 1 (.slice (some ⟨w.heap.size, 0, none⟩) l l) l (List.replicate l (.int .u64 0)) by
      have := World.ownsRow_lit (base := 0) (e := 75) (size := 1) w (madeCells (Value.int .u64 0).cells (l * 1)) l (Nat.zero_le _) (by unfold maxLen; omega) (size_madeCells _ _)
      rw [made_rep] at this
      rw [hw3, hz1]
      exact this)
    have HB3 := Lib.hid (show Below w.heap.size w w3 by rw [hw3]; exact (Below.refl _ _).alloc (Nat.le_refl _) _)
    clear hw3
    go_enter Tryd.func34, Tryd.ntmps34
    go_wp2_with fail
    go_loopg [16] l (fun g i wr => ∃ (k : Nat), k + g = l ∧ i = .int .i64 (k : Nat) ∧ wr.ownsRow 0 75 1 (.slice (some ⟨w.heap.size, 0, none⟩) l l) l (List.replicate l (.int .u64 0)) ∧ Below w.heap.size w wr)
    case atStart => exact ⟨0, Nat.zero_add _, rfl, HO3.out, HB3.out⟩
    case round =>
      obtain ⟨k, hg, rfl, hown, hB⟩ := hrel
      have HG := Lib.hid hg
      have hkl : k ≤ l := by omega
      clear hg
      by_cases hlt : k < l
      · have hki : (k : Int) < (l : Int) := by omega
        have hki2 : ¬ (l : Int) ≤ (k : Int) := by omega
        have hkr : (0 : Int) ≤ (k : Int) := by omega
        have hcell := hown.cellAt k (by omega)
        have hsoft := hown.frozenAt k
        rw [List.getElem?_replicate, if_pos hlt] at hcell
        have HO := Lib.hid hown
        have HB := Lib.hid hB
        clear hown hB
        go_wp2_with fail
        refine (HE.out _ HB.out).mono ?_
        rintro r w2 ⟨rfl, nq, rfl⟩
        go_wp2_with fail
        have hst := (own_drewN HO.out nq).stored k (.int .u64 0)
        rw [set_rep] at hst
        have HST := Lib.hid hst.1
        have HBT := Lib.hid ((below_drewN HB.out nq).setCell (p := ⟨w.heap.size, k, none⟩) (Nat.le_refl _) (.int .u64 0))
        clear hst
        go_roundg (gk - 1)
        case measure => have := HG.out; omega
        case rel => exact ⟨k + 1, by have := HG.out; omega, by go_num, HST.out, HBT.out⟩
      · obtain rfl : k = l := by omega
        have hki : ¬ (k : Int) < (k : Int) := by omega
        clear hlt hkl
        have HM := Lib.hid (made_new hown (Nat.le_refl _) hB)
        clear hown hB
        go_wp2_with fail
        go_ret2
        exact newPost_in HK.out.1 HK.out.2 HM.out rfl
  · by_cases h1 : n < 1
    · clear hn
      go_enter Tryd.func34, Tryd.ntmps34
      go_wp2_with fail
      go_ret2
      exact newPost_out (.inl h1) rfl
    · have h2 : 4096 < n := by omega
      clear hn
      go_enter Tryd.func34, Tryd.ntmps34
      go_wp2_with fail
      go_ret2
      exact newPost_out (.inr h2) rfl
end M
end Go.Proofs.YtnoohhpajoaaoaaDoor
