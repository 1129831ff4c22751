/-
  The examples of package memory's chapter.
-/
import Derived.Test.YtehpbjkacdmlaaaDoorMLaw
namespace Go.Proofs.YtehpbjkacdmlaaaDoor
open Go.RowKit
namespace M
open H
set_option linter.unusedVariables false
set_option maxRecDepth 100000
def L0 : Mem := Mem.new 2
def L1 : Mem := L0.write 1 7
def L2 : Mem := L1.flip 1 5
def L3 : Mem := L2.scrub 1
def L4 : Mem := L3.scrub 1
def L5 : Mem := L4.flip 1 5
def L6 : Mem := L5.flip 1 6
def L7 : Mem := L6.scrub 2
def L8 : Mem := L7.fuse 1
def L9 : Mem := L8.write 0 1
def L10 : Mem := L9.reset
def L11 : Mem := L10.write 0 2
theorem L0_ok : L0.ok := new_ok (by decide) (by decide)
theorem L1_ok : L1.ok := write_ok L0_ok _ (by decide)
theorem L2_ok : L2.ok := flip_ok L1_ok _ _
theorem L3_ok : L3.ok := scrub_ok L2_ok _
theorem L4_ok : L4.ok := scrub_ok L3_ok _
theorem L5_ok : L5.ok := flip_ok L4_ok _ _
theorem L6_ok : L6.ok := flip_ok L5_ok _ _
theorem L7_ok : L7.ok := scrub_ok L6_ok _
theorem L8_ok : L8.ok := fuse_ok L7_ok (by decide)
theorem L9_ok : L9.ok := write_ok L8_ok _ (by decide)
theorem L10_ok : L10.ok := reset_ok L9_ok
theorem L1_same : L1.write 2 7 = L1 := by unfold Mem.write; rw [if_neg (by decide +kernel)]
theorem L2_same : L2.flip 1 39 = L2 := by unfold Mem.flip; rw [if_neg (by decide +kernel)]
theorem L9_same : L9.write 0 2 = L9 := by unfold Mem.write; rw [if_neg (by decide +kernel)]
theorem L_facts : L0.writeE 1 = 0 ∧ L1.writeE 2 = 5 ∧ L1.flipE 1 5 = 0 ∧ L2.flipE 1 39 = 5 ∧ L2.readR 1 = (7, 0) ∧ L6.readR 1 = (0, 20) ∧ L8.writeE 0 = 0 ∧ L9.writeE 0 = 21 ∧ L9.readR 0 = (1, 0) ∧ L10.writeE 0 = 0 ∧ L11.count = 3 ∧ L0.code.length = 2 ∧ L0.off = false := by decide +kernel
theorem L_scrubs : (L2.turns 1 = 1 ∧ L2.found 1 1 = 0 ∧ L2.found 2 1 = 0) ∧ (L3.turns 1 = 1 ∧ L3.found 1 1 = 1 ∧ L3.found 2 1 = 0) ∧ (L6.turns 2 = 2 ∧ L6.found 1 2 = 0 ∧ L6.found 2 2 = 1) := by decide +kernel
theorem L_counts : L0.count < 1000000 ∧ L1.count < 1000000 ∧ L8.count < 1000000 ∧ L9.count < 1000000 ∧ L10.count < 1000000 := by decide +kernel
set_option maxHeartbeats 4000000 in
theorem plives_any (w : World) (tb : E.Tab w) :
    Calls Tryd.prog 11 #[] w fun e w' => e = .returned (.bool true) ∧ Below w.heap.size w w' := by
  have TB := Lib.hid tb
  have LF := Lib.hid L_facts
  have LS := Lib.hid L_scrubs
  have LC := Lib.hid L_counts
  clear tb
  go_enter Tryd.func11, Tryd.ntmps11
  go_wp2_with fail
  refine (pnew_any 0 w TB.out).mono ?_
  intro r w1 hp
  obtain ⟨rfl, rfl⟩ := newPost_not (.inl (by decide)) hp
  clear hp
  go_wp2_with fail
  refine (pnew_any 4097 _ TB.out).mono ?_
  intro r w2 hp
  obtain ⟨rfl, rfl⟩ := newPost_not (.inr (by decide)) hp
  clear hp
  go_wp2_with fail
  refine (made_any 2 (by decide) (by decide) _ TB.out).mono ?_
  rintro r w3 ⟨b, v, rfl, hm⟩
  have M0 : Hid (Made PM w2 w3 b v L0) := Lib.hid hm
  clear hm
  go_wp2_with fail
  refine (plen_any M0.out.1).mono ?_
  rintro r wq ⟨rfl, rfl⟩
  rw [LF.out.2.2.2.2.2.2.2.2.2.2.2.1]
  go_wp2_with fail
  refine (pon_any M0.out.1).mono ?_
  rintro r wq ⟨rfl, rfl⟩
  rw [LF.out.2.2.2.2.2.2.2.2.2.2.2.2]
  go_wp2_with fail
  refine (pwrite_any M0.out.1 L0_ok (M0.out.tab TB.out) LC.out.1 1 7 (by decide)).mono ?_
  rintro r wn ⟨hr, hp, hs⟩
  rw [LF.out.1] at hr
  have M1 : Hid (Made PM w2 wn b v L1) := Lib.hid (M0.out.step hp hs)
  subst hr
  clear hp hs M0
  go_wp2_with fail
  refine (pwrite_any M1.out.1 L1_ok (M1.out.tab TB.out) LC.out.2.1 2 7 (by decide)).mono ?_
  rintro r wn ⟨hr, hp, hs⟩
  rw [LF.out.2.1] at hr
  have M1b : Hid (Made PM w2 wn b v L1) := Lib.hid (M1.out.step (L1_same ▸ hp) hs)
  subst hr
  clear hp hs M1
  go_wp2_with fail
  refine (pflip_mem M1b.out.1 L1_ok 1 5).mono ?_
  rintro r wn ⟨hr, hp, hs⟩
  rw [LF.out.2.2.1] at hr
  have M2 : Hid (Made PM w2 wn b v L2) := Lib.hid (M1b.out.step hp hs)
  subst hr
  clear hp hs M1b
  go_wp2_with fail
  refine (pflip_mem M2.out.1 L2_ok 1 39).mono ?_
  rintro r wn ⟨hr, hp, hs⟩
  rw [LF.out.2.2.2.1] at hr
  have M2b : Hid (Made PM w2 wn b v L2) := Lib.hid (M2.out.step (L2_same ▸ hp) hs)
  subst hr
  clear hp hs M2
  go_wp2_with fail
  refine (pread_any M2b.out.1 L2_ok (M2b.out.tab TB.out) 1).mono ?_
  rintro r wn ⟨hr, nn, rfl⟩
  rw [LF.out.2.2.2.2.1] at hr
  subst hr
  have HD := Lib.hid (M2b.out.drewN nn)
  clear M2b
  have M2b := HD
  clear HD
  go_wp2_with fail
  refine (pscrub_any M2b.out.1 L2_ok (M2b.out.tab TB.out) 1).mono ?_
  rintro r wn ⟨hr, hp, hs⟩
  rw [LS.out.1.1, LS.out.1.2.1, LS.out.1.2.2] at hr
  have M3 : Hid (Made PM w2 wn b v L3) := Lib.hid (M2b.out.step hp hs)
  subst hr
  clear hp hs M2b
  go_wp2_with fail
  refine (pscrub_any M3.out.1 L3_ok (M3.out.tab TB.out) 1).mono ?_
  rintro r wn ⟨hr, hp, hs⟩
  rw [LS.out.2.1.1, LS.out.2.1.2.1, LS.out.2.1.2.2] at hr
  have M4 : Hid (Made PM w2 wn b v L4) := Lib.hid (M3.out.step hp hs)
  subst hr
  clear hp hs M3
  go_wp2_with fail
  refine (pflip_mem ((M4.out.keep ((Below.refl _ _).alloc (Nat.le_refl _) _)).keep ((Below.refl _ _).alloc (Nat.le_refl _) _)).1 L4_ok 1 5).mono ?_
  rintro r wn ⟨hr, hp, hs⟩
  have M5 : Hid (Made PM w2 wn b v L5) := Lib.hid (((M4.out.keep ((Below.refl _ _).alloc (Nat.le_refl _) _)).keep ((Below.refl _ _).alloc (Nat.le_refl _) _)).step hp hs)
  subst hr
  clear hp hs M4
  go_wp2_with fail
  refine (pflip_mem M5.out.1 L5_ok 1 6).mono ?_
  rintro r wn ⟨hr, hp, hs⟩
  have M6 : Hid (Made PM w2 wn b v L6) := Lib.hid (M5.out.step hp hs)
  subst hr
  clear hp hs M5
  go_wp2_with fail
  refine (pread_any M6.out.1 L6_ok (M6.out.tab TB.out) 1).mono ?_
  rintro r wn ⟨hr, nn, rfl⟩
  rw [LF.out.2.2.2.2.2.1] at hr
  subst hr
  have HD := Lib.hid (M6.out.drewN nn)
  clear M6
  have M6 := HD
  clear HD
  go_wp2_with fail
  refine (pscrub_any M6.out.1 L6_ok (M6.out.tab TB.out) 2).mono ?_
  rintro r w7 ⟨hr, hp, hs⟩
  rw [LS.out.2.2.1, LS.out.2.2.2.1, LS.out.2.2.2.2] at hr
  have M7 : Hid (Made PM w2 w7 b v L7) := Lib.hid (M6.out.step hp hs)
  have NF : Hid (¬ FT b v w7.heap.size) := Lib.hid (fun h => by have := hp.lt _ h; omega)
  subst hr
  clear hp hs M6
  go_wp2_with fail
  refine (pfuse_any (M7.out.keep ((Below.refl _ _).alloc (Nat.le_refl _) _)).1 1).mono ?_
  rintro r w8 ⟨hr, hp, hs⟩
  have M8 : Hid (Made PM w2 w8 b v L8) := Lib.hid ((M7.out.keep ((Below.refl _ _).alloc (Nat.le_refl _) _)).step hp hs)
  have Z8 : Hid (w8.heap[w7.heap.size]? = some (.cells #[.int .i64 2, .int .i64 0, .int .i64 1] 54 (0, 0))) := Lib.hid ((hs.block w7.heap.size (by simp) NF.out).trans (heap_alloc_new w7 _))
  subst hr
  clear hp hs M7
  go_wp2_with fail
  refine (pwrite_any M8.out.1 L8_ok (M8.out.tab TB.out) LC.out.2.2.1 0 1 (by decide)).mono ?_
  rintro r w9 ⟨hr, hp, hs⟩
  rw [LF.out.2.2.2.2.2.2.1] at hr
  have M9 : Hid (Made PM w2 w9 b v L9) := Lib.hid (M8.out.step hp hs)
  have Z9 : Hid (w9.heap[w7.heap.size]? = some (.cells #[.int .i64 2, .int .i64 0, .int .i64 1] 54 (0, 0))) := Lib.hid ((hs.block w7.heap.size (blk_lt Z8.out) NF.out).trans Z8.out)
  subst hr
  clear hp hs M8 Z8
  go_wp2_with fail
  refine (pwrite_any M9.out.1 L9_ok (M9.out.tab TB.out) LC.out.2.2.2.1 0 2 (by decide)).mono ?_
  rintro r w10 ⟨hr, hp, hs⟩
  rw [LF.out.2.2.2.2.2.2.2.1] at hr
  have M10 : Hid (Made PM w2 w10 b v L9) := Lib.hid (M9.out.step (L9_same ▸ hp) hs)
  have Z10 : Hid (w10.heap[w7.heap.size]? = some (.cells #[.int .i64 2, .int .i64 0, .int .i64 1] 54 (0, 0))) := Lib.hid ((hs.block w7.heap.size (blk_lt Z9.out) NF.out).trans Z9.out)
  subst hr
  clear hp hs M9 Z9
  go_wp2_with fail
  refine (pread_any M10.out.1 L9_ok (M10.out.tab TB.out) 0).mono ?_
  rintro r wn ⟨hr, nn, rfl⟩
  rw [LF.out.2.2.2.2.2.2.2.2.1] at hr
  subst hr
  have M11 := Lib.hid (M10.out.drewN nn)
  have Z11 : Hid ((World.drewN w10 nn).heap[w7.heap.size]? = some (.cells #[.int .i64 2, .int .i64 0, .int .i64 1] 54 (0, 0))) := Lib.hid Z10.out
  clear M10 Z10
  go_wp2_with fail
  refine (preset_any M11.out.1 ).mono ?_
  rintro r w12 ⟨hr, hp, hs⟩
  have M12 : Hid (Made PM w2 w12 b v L10) := Lib.hid (M11.out.step hp hs)
  have Z12 : Hid (w12.heap[w7.heap.size]? = some (.cells #[.int .i64 2, .int .i64 0, .int .i64 1] 54 (0, 0))) := Lib.hid ((hs.block w7.heap.size (blk_lt Z11.out) NF.out).trans Z11.out)
  subst hr
  clear hp hs M11 Z11
  have z0 := blk_cell Z12.out 0
  have z1 := blk_cell Z12.out 1
  have z2 := blk_cell Z12.out 2
  simp only [List.getElem?_toArray, List.getElem?_cons_succ, List.getElem?_cons_zero] at z0 z1 z2
  go_wp2_with fail
  refine (pwrite_any M12.out.1 L10_ok (M12.out.tab TB.out) LC.out.2.2.2.2 0 2 (by decide)).mono ?_
  rintro r w13 ⟨hr, hp, hs⟩
  rw [LF.out.2.2.2.2.2.2.2.2.2.1] at hr
  have M13 : Hid (Made PM w2 w13 b v L11) := Lib.hid (M12.out.step hp hs)
  have Z13 : Hid (w13.heap[w7.heap.size]? = some (.cells #[.int .i64 2, .int .i64 0, .int .i64 1] 54 (0, 0))) := Lib.hid ((hs.block w7.heap.size (blk_lt Z12.out) NF.out).trans Z12.out)
  subst hr
  clear hp hs M12 Z12
  go_wp2_with fail
  refine (pwrites_any M13.out.1).mono ?_
  rintro r wq ⟨rfl, rfl⟩
  rw [LF.out.2.2.2.2.2.2.2.2.2.2.1]
  go_wp2_with fail
  go_ret
  exact ⟨rfl, M13.out.2.2⟩
end M
end Go.Proofs.YtehpbjkacdmlaaaDoor
