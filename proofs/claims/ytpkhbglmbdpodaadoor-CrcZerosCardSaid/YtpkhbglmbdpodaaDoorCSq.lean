/-
  The program's matrices: a matrix that has the effect of another one twice.
-/
import Derived.Test.YtpkhbglmbdpodaaDoorCMx
import Derived.Deep.RegionWith
import Derived.Deep.RegionHeld3
import Derived.Deep.QuietTactic
namespace Go.Proofs.YtpkhbglmbdpodaaDoor
open Go.RowKit
namespace C
open H
set_option linter.unusedVariables false

theorem Sq.b0 (w : World) (A B C : Obj) : (((w.alloc A).alloc B).alloc C).heap[w.heap.size]? = some A := by
  rw [Below.heap_alloc _ _ _ (by simp; omega)]
  exact heap_alloc2_old w A B
theorem Sq.b1 (w : World) (A B C : Obj) : (((w.alloc A).alloc B).alloc C).heap[w.heap.size + 1]? = some B := by
  rw [Below.heap_alloc _ _ _ (by simp)]
  exact heap_alloc2_new w A B
theorem Sq.b2 (w : World) (A B C : Obj) : (((w.alloc A).alloc B).alloc C).heap[w.heap.size + 1 + 1]? = some C := by
  have h := heap_alloc_new ((w.alloc A).alloc B) C
  have e : ((w.alloc A).alloc B).heap.size = w.heap.size + 1 + 1 := by simp
  rwa [e] at h

set_option maxRecDepth 100000 in
set_option maxHeartbeats 1000000 in
theorem psq_any (n : Nat) (w : World) :
    Calls Tryd.prog 36 #[.agg (mx n)] w fun e w' => e = .returned (.agg (mx (2 * n))) ∧ Below w.heap.size w w' := by
  go_enter Tryd.func36, Tryd.ntmps36
  go_wp2_with fail
  go_loopg [5] 32 (fun g i wr => ∃ k : Nat, k + g = 32 ∧ i = .int .i64 k ∧ wr.heap[w.heap.size]? = some (.cells (mx n) 56 (0, 0)) ∧ (∃ z, wr.heap[w.heap.size + 1]? = some (.cells z 56 (0, 0)) ∧ z.size = 32) ∧ (∃ cs, wr.heap[w.heap.size + 1 + 1]? = some (.cells cs 56 (0, 0)) ∧ Upto cs (2 * n) k) ∧ Below w.heap.size w wr ∧ w.heap.size + 3 ≤ wr.heap.size)
  case atStart => exact ⟨0, Nat.zero_add _, rfl, Sq.b0 _ _ _ _, ⟨_, Sq.b1 _ _ _ _, rfl⟩, ⟨_, Sq.b2 _ _ _ _, rfl, fun j hj => by omega⟩, (((Below.refl _ _).alloc (Nat.le_refl _) _).alloc (by simp) _).alloc (by simp; omega) _, by simp⟩
  case round =>
    obtain ⟨k, hg, rfl, hm, ⟨z, hz, hzs⟩, ⟨cs, hc, hu⟩, hB, hsz⟩ := hrel
    have HG := Lib.hid hg
    have hk : k ≤ 32 := by omega
    by_cases hlt : k < 32
    · have hcell := cell_of_row wr (w.heap.size + 1 + 1) k cs _ _ hc
      have hfr := free_row (i := k) hc
      obtain ⟨v0, hv0⟩ := hu.cell hlt
      rw [hv0] at hcell
      have hcell0 : wr.cell? ⟨w.heap.size, k, none⟩ = some (.int .u32 ((st n (2 ^ k) : Nat) : Int)) := by rw [cell_of_row wr w.heap.size k _ _ _ hm, mx_at hlt]
      have hi : (k : Int) < 32 := by omega
      have hp : 2 ^ k < 4294967296 := Nat.pow_lt_pow_right (a := 2) (by decide) hlt
      have hap := fun W1 => papply_any n (st n (2 ^ k)) W1 (st_lt hp n)
      simp only [square] at hap
      have hS : wr.drew.heap[w.heap.size]? = some (.cells (mx n) 56 (0, 0)) ∧ wr.drew.cell? ⟨w.heap.size, k, none⟩ = some (.int .u32 ((st n (2 ^ k) : Nat) : Int)) ∧ (wr.drew.cell? ⟨w.heap.size + 1 + 1, k, none⟩).isSome = true ∧ wr.drew.frozen? ⟨w.heap.size + 1 + 1, k, none⟩ = false ∧ Below w.heap.size w wr.drew := ⟨hm, hcell0, by rw [show wr.drew.cell? ⟨w.heap.size + 1 + 1, k, none⟩ = some v0 from hcell]; rfl, hfr, hB.drew⟩
      have HH := Lib.hid (And.intro hm (And.intro (And.intro hz hzs) (And.intro hc (And.intro hu (And.intro hB hsz)))))
      have HK := Lib.hid hlt
      have HAP := Lib.hid hap
      obtain ⟨y, hy⟩ : ∃ y, st n (2 ^ k) = y := ⟨_, rfl⟩
      rw [hy] at hS
      have HY := Lib.hid hy
      have hsk : ∀ w2 : World, Below wr.drew.heap.size wr.drew w2 → w2.heap[w.heap.size]? = some (.cells (mx n) 56 (0, 0)) ∧ w2.cell? ⟨w.heap.size, k, none⟩ = some (.int .u32 (y : Int)) ∧ (w2.cell? ⟨w.heap.size + 1 + 1, k, none⟩).isSome = true ∧ w2.frozen? ⟨w.heap.size + 1 + 1, k, none⟩ = false ∧ Below w.heap.size w w2 := fun w2 hB2 =>
        ⟨(hB2.block _ (by show w.heap.size < wr.heap.size; omega)).trans hm, (hB2.cell (p := ⟨w.heap.size, k, none⟩) (by show w.heap.size < wr.heap.size; omega)).trans (by rw [← hy]; exact hcell0), by rw [(hB2.cell (p := ⟨w.heap.size + 1 + 1, k, none⟩) (by show w.heap.size + 1 + 1 < wr.heap.size; omega)).trans hcell]; rfl, (hB2.frozen (p := ⟨w.heap.size + 1 + 1, k, none⟩) (by show w.heap.size + 1 + 1 < wr.heap.size; omega)).trans hfr, hB.drew.trans (hB2.mono (by show w.heap.size ≤ wr.heap.size; omega))⟩
      have HSK := Lib.hid hsk
      have HSZ := Lib.hid (show w.heap.size + 2 < wr.heap.size by omega)
      clear hsk hg hm hz hzs hc hu hB hv0 hsz hlt hp hap hcell hfr hcell0 hy
      go_wp2_with fail
      refine wp_region_noPanic ?_
      refine wp_region_held_drew (S := (fun W1 => W1.heap[w.heap.size]? = some (.cells (mx n) 56 (0, 0)) ∧ W1.cell? ⟨w.heap.size, k, none⟩ = some (.int .u32 (y : Int)) ∧ (W1.cell? ⟨w.heap.size + 1 + 1, k, none⟩).isSome = true ∧ W1.frozen? ⟨w.heap.size + 1 + 1, k, none⟩ = false ∧ Below w.heap.size w W1)) (by kernel_rfl) hS (fun hHeld => ?_)
      refine wpAnyH_take (i := 0) (oi := { dst := some 8, op := _, type := _, pos := _, after := _, guard := _ }) (v := ?_) rfl (by kernel_rfl) (by kernel_rfl) (by kernel_rfl) (fun _ _ _ h => h) (Or.inl ⟨by rfl, ?_⟩) (by assumption) ?_
      rotate_left
      · (intro w hSw; (try dsimp only at hSw); (try obtain ⟨hSm, hSc, hSo, hSf, hSb⟩ := hSw); go_simp)
        first | done | with_reducible rfl
      try simp only [Act.put, List.setIfInBounds_toArray, List.set_cons_zero, List.set_cons_succ]
      refine wpAnyH_take (i := 1) (oi := { dst := some 9, op := _, type := _, pos := _, after := _, guard := _ }) (v := .agg (mx n)) rfl (by kernel_rfl) (by kernel_rfl) (by kernel_rfl) (fun _ _ _ h => h) (Or.inl ⟨by rfl, ?_⟩) (by assumption) ?_
      · intro w1 hSw
        refine exec_load_row 56 (.tmp 1) ?_ w.heap.size ?_ 56 (mx n) (0, 0) _ hSw.1 Tryd.underlying56 rfl (by rw [mx_size]; exact sizeMx) <;> rfl
      try simp only [Act.put, List.setIfInBounds_toArray, List.set_cons_zero, List.set_cons_succ]
      refine wpAnyH_take (i := 2) (oi := { dst := some 10, op := _, type := _, pos := _, after := _, guard := _ }) (v := ?_) rfl (by kernel_rfl) (by kernel_rfl) (by kernel_rfl) (fun _ _ _ h => h) (Or.inl ⟨by rfl, ?_⟩) (by assumption) ?_
      rotate_left
      · (intro w hSw; (try dsimp only at hSw); (try obtain ⟨hSm, hSc, hSo, hSf, hSb⟩ := hSw); go_simp)
        first | done | with_reducible rfl
      try simp only [Act.put, List.setIfInBounds_toArray, List.set_cons_zero, List.set_cons_succ]
      refine wpAnyH_take (i := 3) (oi := { dst := some 11, op := _, type := _, pos := _, after := _, guard := _ }) (v := ?_) rfl (by kernel_rfl) (by kernel_rfl) (by kernel_rfl) (fun _ _ _ h => h) (Or.inl ⟨by rfl, ?_⟩) (by assumption) ?_
      rotate_left
      · (intro w hSw; (try dsimp only at hSw); (try obtain ⟨hSm, hSc, hSo, hSf, hSb⟩ := hSw); go_simp)
        first | done | with_reducible rfl
      try simp only [Act.put, List.setIfInBounds_toArray, List.set_cons_zero, List.set_cons_succ]
      refine wpAnyH_take (i := 4) (oi := { dst := some 12, op := _, type := _, pos := _, after := _, guard := _ }) (v := ?_) rfl (by kernel_rfl) (by kernel_rfl) (by kernel_rfl) (fun _ _ _ h => h) (Or.inl ⟨by rfl, ?_⟩) (by assumption) ?_
      rotate_left
      · (intro w hSw; (try dsimp only at hSw); (try obtain ⟨hSm, hSc, hSo, hSf, hSb⟩ := hSw); go_simp)
        first | done | with_reducible rfl
      try simp only [Act.put, List.setIfInBounds_toArray, List.set_cons_zero, List.set_cons_succ]
      refine wpAnyH_ready (rs := [5]) (by kernel_rfl) (by simp) ?_
      refine AllReadyH.cons (o := { dst := some 13, op := _, type := _, pos := _, after := _, guard := _ }) rfl (fun K hK => ?_) AllReadyH.nil
      go_simp
      have hap2 := HAP.out wr.drew
      rw [HY.out] at hap2
      refine hap2.mono ?_
      clear hap2
      rintro r w2 ⟨rfl, hB2⟩
      have hS2 := HSK.out w2 hB2
      have HB2 := Lib.hid hB2
      clear hB2
      go_wp2_with fail
      refine hK.out _ _ hS2 (fun hH2 => ?_)
      clear hK K hHeld
      rename _ => hHeld
      try simp only [Act.put, List.setIfInBounds_toArray, List.set_cons_zero, List.set_cons_succ]
      refine wpAnyH_take (i := 6) (oi := { dst := some 14, op := _, type := _, pos := _, after := _, guard := _ }) (v := ?_) rfl (by kernel_rfl) (by kernel_rfl) (by kernel_rfl) (fun _ _ _ h => h) (Or.inl ⟨by rfl, ?_⟩) (by assumption) ?_
      rotate_left
      · (intro w hSw; (try dsimp only at hSw); (try obtain ⟨hSm, hSc, hSo, hSf, hSb⟩ := hSw); go_simp)
        first | done | with_reducible rfl
      try simp only [Act.put, List.setIfInBounds_toArray, List.set_cons_zero, List.set_cons_succ]
      refine wpAnyH_ready (rs := [7]) (by kernel_rfl) (by simp) ?_
      refine AllReadyH.cons (o := { dst := none, op := _, type := _, pos := _, after := _, guard := _ }) rfl (fun K hK => ?_) AllReadyH.nil
      obtain ⟨hm2, hc02, hso2, hf2, hbb2⟩ := hS2
      obtain ⟨old, hold⟩ := Option.isSome_iff_exists.1 hso2
      go_simp
      refine hK.out _ _ ⟨?_, ?_, ?_, ?_, ?_⟩ (fun hH2 => ?_)
      · rw [heap_setCell_other _ _ _ _ (by show w.heap.size ≠ w.heap.size + 1 + 1; omega)]; exact hm2
      · rw [World.cell?_setCell_other _ _ _ _ (by simp)]; exact hc02
      · rw [World.cell?_setCell_same _ _ _ hold]; rfl
      · rw [World.frozen?_setCell]; exact hf2
      · exact hbb2.setCell (by show w.heap.size ≤ w.heap.size + 1 + 1; omega) _
      clear hK K hHeld
      refine wpAnyH_done (by kernel_rfl) ?_ _
      refine NoPanic.normal ?_
      have HF := Lib.hid (And.intro hm2 hbb2)
      clear hm2 hc02 hso2 hf2 hbb2 hold hH2
      go_wp2_with fail
      go_roundg (gk - 1)
      case measure => have := HG.out; omega
      case rel =>
        obtain ⟨hm, ⟨hz, hzs⟩, hc, hu, hB, hsz⟩ := HH.out
        have hw2 : ∀ b, b < wr.heap.size → w2.heap[b]? = wr.heap[b]? := fun b hb => HB2.out.block b hb
        have hs2 : wr.heap.size ≤ w2.heap.size := HB2.out.size
        refine ⟨k + 1, by have := HG.out; omega, by go_num, ?_, ⟨z, ?_, hzs⟩, ⟨_, Joins.block_setCell ((hw2 _ (by omega)).trans hc) _, hu.step HK.out rfl⟩, HF.out.2.setCell (by show w.heap.size ≤ w.heap.size + 1 + 1; omega) _, by rw [World.size_setCell]; omega⟩
        · rw [heap_setCell_other _ _ _ _ (by show w.heap.size ≠ w.heap.size + 1 + 1; omega)]; exact HF.out.1
        · rw [heap_setCell_other _ _ _ _ (by show w.heap.size + 1 ≠ w.heap.size + 1 + 1; omega)]; exact (hw2 _ (by omega)).trans hz
    · have hk : k = 32 := by omega
      subst hk
      have hcs := hu.full
      subst hcs
      have HH := Lib.hid (And.intro hz (And.intro hzs (And.intro hc hB)))
      clear hg hm hz hzs hc hu hB hlt hsz
      have hst := run_store_row (P := Tryd.prog) HH.out.1 (show (mx (2 * n)).size = z.size by rw [mx_size, HH.out.2.1]) (int_cells _ _)
      go_wp2_with (refine wpList_load_row rfl 56 _ rfl (w.heap.size + 1 + 1) rfl 56 (mx (2 * n)) (0, 0) _ HH.out.2.2.1 Tryd.underlying56 rfl (by rw [mx_size]; exact sizeMx) ?_)
      refine bodyPost_ret (v := .agg (mx (2 * n))) (results_cell_row (ty := 56) rfl _ _ (w.heap.size + 1) 56 (mx (2 * n)) (0, 0) _ rfl (setRow_heap _ _ _ _ _ _ HH.out.1) Tryd.underlying56 rfl (by rw [mx_size]; exact sizeMx)) rfl ⟨rfl, below_setRow HH.out.2.2.2 (by omega) _⟩
end C
end Go.Proofs.YtpkhbglmbdpodaaDoor
