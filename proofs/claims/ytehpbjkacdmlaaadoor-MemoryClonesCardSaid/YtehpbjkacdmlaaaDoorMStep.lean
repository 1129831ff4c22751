/-
  A memory and its specification side by side: step of the laws of package memory.
-/
import Derived.Test.YtehpbjkacdmlaaaDoorMLives
import Derived.Test.YtehpbjkacdmlaaaDoorMOpen
import Derived.Test.YtehpbjkacdmlaaaDoorMScrub
import Derived.Deep.DeepCutAuto
import Derived.Deep.RegionHeld3
import Derived.Deep.LoopGhost
import Derived.Deep.QuietTactic
import Derived.BigQuiet
namespace Go.Proofs.YtehpbjkacdmlaaaDoor
open Go.RowKit
namespace M
open H
set_option linter.unusedVariables false
set_option maxRecDepth 100000
/-- What an operation does. -/
def stepM (m : Mem) (o : Opn) : Mem :=
  if o.kind = 0 then m.write o.a o.w else if o.kind = 2 then m.flip o.a o.n else if o.kind = 3 then m.scrub o.n else if o.kind = 4 then m.fuse o.n else if o.kind = 5 then m.reset else m
theorem stepM_ok {m : Mem} (h : m.ok) {o : Opn} (ho : o.Ok) : (stepM m o).ok := by
  unfold stepM
  split
  · exact write_ok h _ ho.w
  · split
    · exact flip_ok h _ _
    · split
      · exact scrub_ok h _
      · split
        · exact fuse_ok h ho.n.2
        · split
          · exact reset_ok h
          · exact h
theorem write_count_le (m : Mem) (a : Int) (x : Nat) : (m.write a x).count ≤ m.count + 1 := by
  unfold Mem.write
  split
  · exact Nat.le_refl _
  · exact Nat.le_succ _
theorem stepM_count (m : Mem) (o : Opn) : (stepM m o).count ≤ m.count + 1 := by
  unfold stepM
  split
  · exact write_count_le _ _ _
  · split
    · rw [flip_count]; omega
    · split
      · unfold Mem.scrub; rw [visits_count]; omega
      · split
        · unfold Mem.fuse; split <;> exact Nat.le_succ _
        · split <;> exact Nat.le_succ _
/-- A memory and its specification hold the same, in blocks of their own. -/
structure Pair (w : World) (bm : Nat) (vm : Value) (br : Nat) (vr : Value) (m : Mem) : Prop where
  pm : PM w bm vm m
  rm : RM w br vr m
  apart : ∀ k, FT bm vm k → ¬ FT br vr k
theorem RM.lt {w : World} {b : Nat} {v : Value} {m : Mem} (h : RM w b v m) : ∀ k, FT b v k → k < w.heap.size := Obj1.lt h
theorem RM.keep {w w' : World} {b : Nat} {v : Value} {m : Mem} (h : RM w b v m) (hb : Below w.heap.size w w') : RM w' b v m := Obj1.keep h hb
theorem Pair.keep {w w' : World} {bm br : Nat} {vm vr : Value} {m : Mem} (h : Pair w bm vm br vr m) (hb : Below w.heap.size w w') : Pair w' bm vm br vr m := ⟨h.pm.keep hb, h.rm.keep hb, h.apart⟩
/-- What step leaves. -/
def StepPost (w : World) (bm : Nat) (vm : Value) (br : Nat) (vr : Value) (m' : Mem) (r : Ending) (w' : World) : Prop :=
  ∃ bm' vm' br' vr', r = .returned (.tuple #[.pointer (some ⟨bm', 0, none⟩), .pointer (some ⟨br', 0, none⟩), .bool true]) ∧ Pair w' bm' vm' br' vr' m' ∧ Save (fun k => FT bm vm k ∨ FT br vr k) w w' ∧
    (∀ k, FT bm' vm' k → FT bm vm k ∨ w.heap.size ≤ k) ∧ (∀ k, FT br' vr' k → FT br vr k ∨ w.heap.size ≤ k)
/-- The same objects behind a call of each. -/
theorem Pair.two {w w1 w2 : World} {bm br : Nat} {vm vr : Value} {m m' : Mem} (h : Pair w bm vm br vr m) (h1 : PM w1 bm vm m') (s1 : Save (FT bm vm) w w1) (h2 : RM w2 br vr m') (s2 : Save (FT br vr) w1 w2) : Pair w2 bm vm br vr m' ∧ Save (fun k => FT bm vm k ∨ FT br vr k) w w2 :=
  ⟨⟨h1.save s2 (fun k hk => h.apart k hk), h2, h.apart⟩, (s1.more fun k hk => .inl hk).trans (s2.more fun k hk => .inr hk)⟩
theorem Pair.right {w w1 : World} {bm br : Nat} {vm vr : Value} {m : Mem} (h : Pair w bm vm br vr m) (s1 : Save (FT bm vm) w w1) : RM w1 br vr m := h.rm.save s1 (fun k hk hk2 => h.apart k hk2 hk)
theorem Pair.right' {w w1 : World} {bm br : Nat} {vm vr : Value} {m : Mem} (h : Pair w bm vm br vr m) (s1 : Save (FT bm vm) w.drew w1) : RM w1 br vr m := (RM.drew h.rm).save s1 (fun k hk hk2 => h.apart k hk2 hk)
theorem not_beq_self (o : Bool) : ((!o) == (!o)) = true := by cases o <;> rfl
set_option maxHeartbeats 4000000 in
theorem step_other {w : World} {bm br : Nat} {vm vr : Value} {m : Mem} (h : Pair w bm vm br vr m) (hm : m.ok) (tb : E.Tab w) (hc : m.count < 1000000) (ok : Int) (oa on : Int) (ow : Nat) (how : ow < 4294967296) (hk : ok ≠ 0 ∧ ok ≠ 1 ∧ ok ≠ 2 ∧ ok ≠ 3 ∧ ok ≠ 4 ∧ ok ≠ 5 ∧ ok ≠ 6) :
    Calls Tryd.prog 14 #[.pointer (some ⟨bm, 0, none⟩), .pointer (some ⟨br, 0, none⟩), .agg #[.int .i64 ok, .int .i64 oa, .int .i64 on, .int .u32 (ow : Nat)]] w (StepPost w bm vm br vr (m)) := by
  have k0 : (ok == 0) = false := by simp [hk]
  have k1 : (ok == 1) = false := by simp [hk]
  have k2 : (ok == 2) = false := by simp [hk]
  have k3 : (ok == 3) = false := by simp [hk]
  have k4 : (ok == 4) = false := by simp [hk]
  have k5 : (ok == 5) = false := by simp [hk]
  have k6 : (ok == 6) = false := by simp [hk]
  clear hk
  have h0 := h.keep ((Below.refl _ _).alloc (Nat.le_refl _) (.cells #[.int .i64 ok, .int .i64 oa, .int .i64 on, .int .u32 (ow : Nat)] 35))
  have sv0 : Save (fun k => FT bm vm k ∨ FT br vr k) w (w.alloc (.cells #[.int .i64 ok, .int .i64 oa, .int .i64 on, .int .u32 (ow : Nat)] 35)) := (Save.refl _ _).alloc _
  have hbx := heap_alloc_new w (.cells #[.int .i64 ok, .int .i64 oa, .int .i64 on, .int .u32 (ow : Nat)] 35)
  have HOKM := Lib.hid hm
  have HTB := Lib.hid (tb.below tb.pos ((Below.refl w.heap.size w).alloc (Nat.le_refl _) (.cells #[.int .i64 ok, .int .i64 oa, .int .i64 on, .int .u32 (ow : Nat)] 35)))
  have HC := Lib.hid hc
  have HOW := Lib.hid how
  have hltm := h.pm.lt
  have hltr := h.rm.lt
  have HLT := Lib.hid (And.intro hltm hltr)
  have HH := Lib.hid (And.intro h0 (And.intro sv0 hbx))
  have HWS : Hid (w.heap.size < (w.alloc (.cells #[.int .i64 ok, .int .i64 oa, .int .i64 on, .int .u32 (ow : Nat)] 35)).heap.size) := Lib.hid (blk_lt hbx)
  have NB : Hid (¬ FT bm vm w.heap.size ∧ ¬ FT br vr w.heap.size) := Lib.hid ⟨fun e => by have := hltm _ e; omega, fun e => by have := hltr _ e; omega⟩
  clear h h0 sv0 hbx hm tb hc how hltm hltr
  go_enter Tryd.func14, Tryd.ntmps14
  have FIN := Lib.hid (show Pair _ bm vm br vr (m) ∧ Save (fun k => FT bm vm k ∨ FT br vr k) w _ ∧ (∀ k, FT bm vm k → FT bm vm k ∨ w.heap.size ≤ k) ∧ (∀ k, FT br vr k → FT br vr k ∨ w.heap.size ≤ k) from ⟨HH.out.1, HH.out.2.1, fun k hk => .inl hk, fun k hk => .inl hk⟩)
  have OK9 : Hid ((m).ok) := Lib.hid (HOKM.out)
  obtain ⟨g9, q9, hv9, _, _, _⟩ := FIN.out.1.rm.shape OK9.out
  have c0 := blk_cell FIN.out.1.rm.blk 0
  have c2 := blk_cell FIN.out.1.rm.blk 2
  have c4 := blk_cell FIN.out.1.rm.blk 4
  simp only [rcs, List.getElem?_toArray, List.getElem?_cons_succ, List.getElem?_cons_zero] at c0 c2 c4
  rw [hv9] at c0
  have ON := Lib.hid (fun n => pon_any (FIN.out.1.pm.drewN n))
  have WR := Lib.hid (fun n => pwrites_any (FIN.out.1.pm.drewN n))
  have LN := Lib.hid (fun n => plen_any (FIN.out.1.pm.drewN n))
  have hse := not_beq_self (m).off
  clear hv9
  go_wp2_with fail
  go_quiet ((first | (go_at_call 23; exact Calls.quiet_of_same (ON.out _)) | (go_at_call 21; exact Calls.quiet_of_same (WR.out _)) | (go_at_call 31; exact Calls.quiet_of_same (LN.out _))))
  go_wp2_with fail
  refine bodyPost_ret (v := .tuple #[.pointer (some ⟨bm, 0, none⟩), .pointer (some ⟨br, 0, none⟩), .bool true]) (by simp [results, Tryd.results14, go_sem]) rfl ?_
  exact ⟨bm, _, br, _, rfl, ⟨FIN.out.1.pm.drewN _, FIN.out.1.rm.drewN _, FIN.out.1.apart⟩, FIN.out.2.1.drewN _, FIN.out.2.2.1, FIN.out.2.2.2⟩
set_option maxHeartbeats 4000000 in
theorem step_read {w : World} {bm br : Nat} {vm vr : Value} {m : Mem} (h : Pair w bm vm br vr m) (hm : m.ok) (tb : E.Tab w) (hc : m.count < 1000000) (ok : Int) (oa on : Int) (ow : Nat) (how : ow < 4294967296) (hk : ok = 1) :
    Calls Tryd.prog 14 #[.pointer (some ⟨bm, 0, none⟩), .pointer (some ⟨br, 0, none⟩), .agg #[.int .i64 ok, .int .i64 oa, .int .i64 on, .int .u32 (ow : Nat)]] w (StepPost w bm vm br vr (m)) := by
  subst hk
  have h0 := h.keep ((Below.refl _ _).alloc (Nat.le_refl _) (.cells #[.int .i64 1, .int .i64 oa, .int .i64 on, .int .u32 (ow : Nat)] 35))
  have sv0 : Save (fun k => FT bm vm k ∨ FT br vr k) w (w.alloc (.cells #[.int .i64 1, .int .i64 oa, .int .i64 on, .int .u32 (ow : Nat)] 35)) := (Save.refl _ _).alloc _
  have hbx := heap_alloc_new w (.cells #[.int .i64 1, .int .i64 oa, .int .i64 on, .int .u32 (ow : Nat)] 35)
  have HOKM := Lib.hid hm
  have HTB := Lib.hid (tb.below tb.pos ((Below.refl w.heap.size w).alloc (Nat.le_refl _) (.cells #[.int .i64 1, .int .i64 oa, .int .i64 on, .int .u32 (ow : Nat)] 35)))
  have HC := Lib.hid hc
  have HOW := Lib.hid how
  have hltm := h.pm.lt
  have hltr := h.rm.lt
  have HLT := Lib.hid (And.intro hltm hltr)
  have HH := Lib.hid (And.intro h0 (And.intro sv0 hbx))
  have HWS : Hid (w.heap.size < (w.alloc (.cells #[.int .i64 1, .int .i64 oa, .int .i64 on, .int .u32 (ow : Nat)] 35)).heap.size) := Lib.hid (blk_lt hbx)
  have NB : Hid (¬ FT bm vm w.heap.size ∧ ¬ FT br vr w.heap.size) := Lib.hid ⟨fun e => by have := hltm _ e; omega, fun e => by have := hltr _ e; omega⟩
  clear h h0 sv0 hbx hm tb hc how hltm hltr
  go_enter Tryd.func14, Tryd.ntmps14
  go_wp2_with fail
  refine (pread_any HH.out.1.pm HOKM.out HTB.out oa).mono ?_
  rintro r w1 ⟨rfl, nn, hwn⟩
  have P1 : Hid (Pair w1 bm vm br vr m ∧ Save (fun k => FT bm vm k ∨ FT br vr k) w w1 ∧ w1.cell? ⟨w.heap.size, 1, none⟩ = some (.int .i64 oa)) := Lib.hid (by rw [hwn]; exact ⟨⟨HH.out.1.pm.drewN nn, HH.out.1.rm.drewN nn, HH.out.1.apart⟩, HH.out.2.1.drewN nn, blk_cell HH.out.2.2 1⟩)
  clear hwn
  have e1 := P1.out.2.2
  go_wp2_with fail
  refine (rread_any P1.out.1.rm HOKM.out oa).mono ?_
  rintro r w2 ⟨rfl, hw2⟩
  subst hw2
  have FIN := Lib.hid (show Pair _ bm vm br vr (m) ∧ Save (fun k => FT bm vm k ∨ FT br vr k) w _ ∧ (∀ k, FT bm vm k → FT bm vm k ∨ w.heap.size ≤ k) ∧ (∀ k, FT br vr k → FT br vr k ∨ w.heap.size ≤ k) from ⟨P1.out.1, P1.out.2.1, fun k hk => .inl hk, fun k hk => .inl hk⟩)
  have OK9 : Hid ((m).ok) := Lib.hid (HOKM.out)
  obtain ⟨g9, q9, hv9, _, _, _⟩ := FIN.out.1.rm.shape OK9.out
  have c0 := blk_cell FIN.out.1.rm.blk 0
  have c2 := blk_cell FIN.out.1.rm.blk 2
  have c4 := blk_cell FIN.out.1.rm.blk 4
  simp only [rcs, List.getElem?_toArray, List.getElem?_cons_succ, List.getElem?_cons_zero] at c0 c2 c4
  rw [hv9] at c0
  have ON := Lib.hid (fun n => pon_any (FIN.out.1.pm.drewN n))
  have WR := Lib.hid (fun n => pwrites_any (FIN.out.1.pm.drewN n))
  have LN := Lib.hid (fun n => plen_any (FIN.out.1.pm.drewN n))
  have hse := not_beq_self (m).off
  clear hv9
  go_wp2_with fail
  go_quiet ((first | (go_at_call 23; exact Calls.quiet_of_same (ON.out _)) | (go_at_call 21; exact Calls.quiet_of_same (WR.out _)) | (go_at_call 31; exact Calls.quiet_of_same (LN.out _))))
  go_wp2_with fail
  refine bodyPost_ret (v := .tuple #[.pointer (some ⟨bm, 0, none⟩), .pointer (some ⟨br, 0, none⟩), .bool true]) (by simp [results, Tryd.results14, go_sem]) rfl ?_
  exact ⟨bm, _, br, _, rfl, ⟨FIN.out.1.pm.drewN _, FIN.out.1.rm.drewN _, FIN.out.1.apart⟩, FIN.out.2.1.drewN _, FIN.out.2.2.1, FIN.out.2.2.2⟩
set_option maxHeartbeats 4000000 in
theorem step_fuse {w : World} {bm br : Nat} {vm vr : Value} {m : Mem} (h : Pair w bm vm br vr m) (hm : m.ok) (tb : E.Tab w) (hc : m.count < 1000000) (ok : Int) (oa on : Int) (ow : Nat) (how : ow < 4294967296) (hon : -9223372036854775808 ≤ on ∧ on ≤ 9223372036854775807) (hk : ok = 4) :
    Calls Tryd.prog 14 #[.pointer (some ⟨bm, 0, none⟩), .pointer (some ⟨br, 0, none⟩), .agg #[.int .i64 ok, .int .i64 oa, .int .i64 on, .int .u32 (ow : Nat)]] w (StepPost w bm vm br vr (m.fuse on)) := by
  subst hk
  have h0 := h.keep ((Below.refl _ _).alloc (Nat.le_refl _) (.cells #[.int .i64 4, .int .i64 oa, .int .i64 on, .int .u32 (ow : Nat)] 35))
  have sv0 : Save (fun k => FT bm vm k ∨ FT br vr k) w (w.alloc (.cells #[.int .i64 4, .int .i64 oa, .int .i64 on, .int .u32 (ow : Nat)] 35)) := (Save.refl _ _).alloc _
  have hbx := heap_alloc_new w (.cells #[.int .i64 4, .int .i64 oa, .int .i64 on, .int .u32 (ow : Nat)] 35)
  have HOKM := Lib.hid hm
  have HTB := Lib.hid (tb.below tb.pos ((Below.refl w.heap.size w).alloc (Nat.le_refl _) (.cells #[.int .i64 4, .int .i64 oa, .int .i64 on, .int .u32 (ow : Nat)] 35)))
  have HC := Lib.hid hc
  have HOW := Lib.hid how
  have hltm := h.pm.lt
  have hltr := h.rm.lt
  have HLT := Lib.hid (And.intro hltm hltr)
  have HH := Lib.hid (And.intro h0 (And.intro sv0 hbx))
  have HWS : Hid (w.heap.size < (w.alloc (.cells #[.int .i64 4, .int .i64 oa, .int .i64 on, .int .u32 (ow : Nat)] 35)).heap.size) := Lib.hid (blk_lt hbx)
  have NB : Hid (¬ FT bm vm w.heap.size ∧ ¬ FT br vr w.heap.size) := Lib.hid ⟨fun e => by have := hltm _ e; omega, fun e => by have := hltr _ e; omega⟩
  clear h h0 sv0 hbx hm tb hc how hltm hltr
  go_enter Tryd.func14, Tryd.ntmps14
  go_wp2_with fail
  refine (pfuse_any HH.out.1.pm on).mono ?_
  rintro r w1 ⟨rfl, hp, hs⟩
  have HS1 := Lib.hid (And.intro hp hs)
  have d2 := (hs.block _ HWS.out NB.out.1).trans HH.out.2.2
  have e2 := blk_cell d2 2
  simp only [List.getElem?_toArray, List.getElem?_cons_succ, List.getElem?_cons_zero] at e2
  clear hp hs d2
  go_wp2_with fail
  refine (rfuse_any (HH.out.1.right HS1.out.2) on).mono ?_
  rintro r w2 ⟨rfl, hp2, hs2⟩
  have hpr := HH.out.1.two HS1.out.1 HS1.out.2 hp2 hs2
  have FIN := Lib.hid (show Pair _ bm vm br vr (m.fuse on) ∧ Save (fun k => FT bm vm k ∨ FT br vr k) w _ ∧ (∀ k, FT bm vm k → FT bm vm k ∨ w.heap.size ≤ k) ∧ (∀ k, FT br vr k → FT br vr k ∨ w.heap.size ≤ k) from ⟨hpr.1, HH.out.2.1.trans hpr.2, fun k hk => .inl hk, fun k hk => .inl hk⟩)
  have OK9 : Hid ((m.fuse on).ok) := Lib.hid (fuse_ok HOKM.out hon.2)
  clear hp2 hs2 hpr
  obtain ⟨g9, q9, hv9, _, _, _⟩ := FIN.out.1.rm.shape OK9.out
  have c0 := blk_cell FIN.out.1.rm.blk 0
  have c2 := blk_cell FIN.out.1.rm.blk 2
  have c4 := blk_cell FIN.out.1.rm.blk 4
  simp only [rcs, List.getElem?_toArray, List.getElem?_cons_succ, List.getElem?_cons_zero] at c0 c2 c4
  rw [hv9] at c0
  have ON := Lib.hid (fun n => pon_any (FIN.out.1.pm.drewN n))
  have WR := Lib.hid (fun n => pwrites_any (FIN.out.1.pm.drewN n))
  have LN := Lib.hid (fun n => plen_any (FIN.out.1.pm.drewN n))
  have hse := not_beq_self (m.fuse on).off
  clear hv9
  go_wp2_with fail
  go_quiet ((first | (go_at_call 23; exact Calls.quiet_of_same (ON.out _)) | (go_at_call 21; exact Calls.quiet_of_same (WR.out _)) | (go_at_call 31; exact Calls.quiet_of_same (LN.out _))))
  go_wp2_with fail
  refine bodyPost_ret (v := .tuple #[.pointer (some ⟨bm, 0, none⟩), .pointer (some ⟨br, 0, none⟩), .bool true]) (by simp [results, Tryd.results14, go_sem]) rfl ?_
  exact ⟨bm, _, br, _, rfl, ⟨FIN.out.1.pm.drewN _, FIN.out.1.rm.drewN _, FIN.out.1.apart⟩, FIN.out.2.1.drewN _, FIN.out.2.2.1, FIN.out.2.2.2⟩
set_option maxHeartbeats 4000000 in
theorem step_reset {w : World} {bm br : Nat} {vm vr : Value} {m : Mem} (h : Pair w bm vm br vr m) (hm : m.ok) (tb : E.Tab w) (hc : m.count < 1000000) (ok : Int) (oa on : Int) (ow : Nat) (how : ow < 4294967296) (hk : ok = 5) :
    Calls Tryd.prog 14 #[.pointer (some ⟨bm, 0, none⟩), .pointer (some ⟨br, 0, none⟩), .agg #[.int .i64 ok, .int .i64 oa, .int .i64 on, .int .u32 (ow : Nat)]] w (StepPost w bm vm br vr (m.reset)) := by
  subst hk
  have h0 := h.keep ((Below.refl _ _).alloc (Nat.le_refl _) (.cells #[.int .i64 5, .int .i64 oa, .int .i64 on, .int .u32 (ow : Nat)] 35))
  have sv0 : Save (fun k => FT bm vm k ∨ FT br vr k) w (w.alloc (.cells #[.int .i64 5, .int .i64 oa, .int .i64 on, .int .u32 (ow : Nat)] 35)) := (Save.refl _ _).alloc _
  have hbx := heap_alloc_new w (.cells #[.int .i64 5, .int .i64 oa, .int .i64 on, .int .u32 (ow : Nat)] 35)
  have HOKM := Lib.hid hm
  have HTB := Lib.hid (tb.below tb.pos ((Below.refl w.heap.size w).alloc (Nat.le_refl _) (.cells #[.int .i64 5, .int .i64 oa, .int .i64 on, .int .u32 (ow : Nat)] 35)))
  have HC := Lib.hid hc
  have HOW := Lib.hid how
  have hltm := h.pm.lt
  have hltr := h.rm.lt
  have HLT := Lib.hid (And.intro hltm hltr)
  have HH := Lib.hid (And.intro h0 (And.intro sv0 hbx))
  have HWS : Hid (w.heap.size < (w.alloc (.cells #[.int .i64 5, .int .i64 oa, .int .i64 on, .int .u32 (ow : Nat)] 35)).heap.size) := Lib.hid (blk_lt hbx)
  have NB : Hid (¬ FT bm vm w.heap.size ∧ ¬ FT br vr w.heap.size) := Lib.hid ⟨fun e => by have := hltm _ e; omega, fun e => by have := hltr _ e; omega⟩
  clear h h0 sv0 hbx hm tb hc how hltm hltr
  go_enter Tryd.func14, Tryd.ntmps14
  go_wp2_with fail
  refine (preset_any HH.out.1.pm).mono ?_
  rintro r w1 ⟨rfl, hp, hs⟩
  have HS1 := Lib.hid (And.intro hp hs)
  have d2 := (hs.block _ HWS.out NB.out.1).trans HH.out.2.2
  have e2 := blk_cell d2 2
  simp only [List.getElem?_toArray, List.getElem?_cons_succ, List.getElem?_cons_zero] at e2
  clear hp hs d2
  go_wp2_with fail
  refine (rreset_any (HH.out.1.right HS1.out.2)).mono ?_
  rintro r w2 ⟨rfl, hp2, hs2⟩
  have hpr := HH.out.1.two HS1.out.1 HS1.out.2 hp2 hs2
  have FIN := Lib.hid (show Pair _ bm vm br vr (m.reset) ∧ Save (fun k => FT bm vm k ∨ FT br vr k) w _ ∧ (∀ k, FT bm vm k → FT bm vm k ∨ w.heap.size ≤ k) ∧ (∀ k, FT br vr k → FT br vr k ∨ w.heap.size ≤ k) from ⟨hpr.1, HH.out.2.1.trans hpr.2, fun k hk => .inl hk, fun k hk => .inl hk⟩)
  have OK9 : Hid ((m.reset).ok) := Lib.hid (reset_ok HOKM.out)
  clear hp2 hs2 hpr
  obtain ⟨g9, q9, hv9, _, _, _⟩ := FIN.out.1.rm.shape OK9.out
  have c0 := blk_cell FIN.out.1.rm.blk 0
  have c2 := blk_cell FIN.out.1.rm.blk 2
  have c4 := blk_cell FIN.out.1.rm.blk 4
  simp only [rcs, List.getElem?_toArray, List.getElem?_cons_succ, List.getElem?_cons_zero] at c0 c2 c4
  rw [hv9] at c0
  have ON := Lib.hid (fun n => pon_any (FIN.out.1.pm.drewN n))
  have WR := Lib.hid (fun n => pwrites_any (FIN.out.1.pm.drewN n))
  have LN := Lib.hid (fun n => plen_any (FIN.out.1.pm.drewN n))
  have hse := not_beq_self (m.reset).off
  clear hv9
  go_wp2_with fail
  go_quiet ((first | (go_at_call 23; exact Calls.quiet_of_same (ON.out _)) | (go_at_call 21; exact Calls.quiet_of_same (WR.out _)) | (go_at_call 31; exact Calls.quiet_of_same (LN.out _))))
  go_wp2_with fail
  refine bodyPost_ret (v := .tuple #[.pointer (some ⟨bm, 0, none⟩), .pointer (some ⟨br, 0, none⟩), .bool true]) (by simp [results, Tryd.results14, go_sem]) rfl ?_
  exact ⟨bm, _, br, _, rfl, ⟨FIN.out.1.pm.drewN _, FIN.out.1.rm.drewN _, FIN.out.1.apart⟩, FIN.out.2.1.drewN _, FIN.out.2.2.1, FIN.out.2.2.2⟩
set_option maxHeartbeats 4000000 in
theorem step_clone {w : World} {bm br : Nat} {vm vr : Value} {m : Mem} (h : Pair w bm vm br vr m) (hm : m.ok) (tb : E.Tab w) (hc : m.count < 1000000) (ok : Int) (oa on : Int) (ow : Nat) (how : ow < 4294967296) (hk : ok = 6) :
    Calls Tryd.prog 14 #[.pointer (some ⟨bm, 0, none⟩), .pointer (some ⟨br, 0, none⟩), .agg #[.int .i64 ok, .int .i64 oa, .int .i64 on, .int .u32 (ow : Nat)]] w (StepPost w bm vm br vr (m)) := by
  subst hk
  have h0 := h.keep ((Below.refl _ _).alloc (Nat.le_refl _) (.cells #[.int .i64 6, .int .i64 oa, .int .i64 on, .int .u32 (ow : Nat)] 35))
  have sv0 : Save (fun k => FT bm vm k ∨ FT br vr k) w (w.alloc (.cells #[.int .i64 6, .int .i64 oa, .int .i64 on, .int .u32 (ow : Nat)] 35)) := (Save.refl _ _).alloc _
  have hbx := heap_alloc_new w (.cells #[.int .i64 6, .int .i64 oa, .int .i64 on, .int .u32 (ow : Nat)] 35)
  have HOKM := Lib.hid hm
  have HTB := Lib.hid (tb.below tb.pos ((Below.refl w.heap.size w).alloc (Nat.le_refl _) (.cells #[.int .i64 6, .int .i64 oa, .int .i64 on, .int .u32 (ow : Nat)] 35)))
  have HC := Lib.hid hc
  have HOW := Lib.hid how
  have hltm := h.pm.lt
  have hltr := h.rm.lt
  have HLT := Lib.hid (And.intro hltm hltr)
  have HH := Lib.hid (And.intro h0 (And.intro sv0 hbx))
  have HWS : Hid (w.heap.size < (w.alloc (.cells #[.int .i64 6, .int .i64 oa, .int .i64 on, .int .u32 (ow : Nat)] 35)).heap.size) := Lib.hid (blk_lt hbx)
  have NB : Hid (¬ FT bm vm w.heap.size ∧ ¬ FT br vr w.heap.size) := Lib.hid ⟨fun e => by have := hltm _ e; omega, fun e => by have := hltr _ e; omega⟩
  clear h h0 sv0 hbx hm tb hc how hltm hltr
  go_enter Tryd.func14, Tryd.ntmps14
  go_wp2_with fail
  refine (pclone_any HH.out.1.pm HOKM.out).mono ?_
  rintro r w1 ⟨b1, v1, rfl, hm1⟩
  have HM1 := Lib.hid hm1
  clear hm1
  go_wp2_with fail
  refine (rclone_any (HH.out.1.rm.keep HM1.out.2.2) HOKM.out).mono ?_
  rintro r w2 ⟨b2, v2, rfl, hm2⟩
  have hb2 := HM1.out.2.2.trans (hm2.2.2.mono HM1.out.2.2.size)
  have FIN := Lib.hid (show Pair w2 b1 v1 b2 v2 m ∧ Save (fun k => FT bm vm k ∨ FT br vr k) w w2 ∧ (∀ k, FT b1 v1 k → FT bm vm k ∨ w.heap.size ≤ k) ∧ (∀ k, FT b2 v2 k → FT br vr k ∨ w.heap.size ≤ k) from
    ⟨⟨HM1.out.1.keep hm2.2.2, hm2.1, fun k hk hk2 => by have := HM1.out.1.lt k hk; have := hm2.2.1 k hk2; omega⟩, HH.out.2.1.then hb2, fun k hk => .inr (by have := HM1.out.2.1 k hk; have := HWS.out; omega), fun k hk => .inr (by have := hm2.2.1 k hk; have := HM1.out.2.2.size; have := HWS.out; omega)⟩)
  have OK9 := Lib.hid HOKM.out
  clear hm2 hb2
  obtain ⟨g9, q9, hv9, _, _, _⟩ := FIN.out.1.rm.shape OK9.out
  have c0 := blk_cell FIN.out.1.rm.blk 0
  have c2 := blk_cell FIN.out.1.rm.blk 2
  have c4 := blk_cell FIN.out.1.rm.blk 4
  simp only [rcs, List.getElem?_toArray, List.getElem?_cons_succ, List.getElem?_cons_zero] at c0 c2 c4
  rw [hv9] at c0
  have ON := Lib.hid (fun n => pon_any (FIN.out.1.pm.drewN n))
  have WR := Lib.hid (fun n => pwrites_any (FIN.out.1.pm.drewN n))
  have LN := Lib.hid (fun n => plen_any (FIN.out.1.pm.drewN n))
  have hse := not_beq_self (m).off
  clear hv9
  go_wp2_with fail
  go_quiet ((first | (go_at_call 23; exact Calls.quiet_of_same (ON.out _)) | (go_at_call 21; exact Calls.quiet_of_same (WR.out _)) | (go_at_call 31; exact Calls.quiet_of_same (LN.out _))))
  go_wp2_with fail
  refine bodyPost_ret (v := .tuple #[.pointer (some ⟨b1, 0, none⟩), .pointer (some ⟨b2, 0, none⟩), .bool true]) (by simp [results, Tryd.results14, go_sem]) rfl ?_
  exact ⟨b1, _, b2, _, rfl, ⟨FIN.out.1.pm.drewN _, FIN.out.1.rm.drewN _, FIN.out.1.apart⟩, FIN.out.2.1.drewN _, FIN.out.2.2.1, FIN.out.2.2.2⟩
set_option maxHeartbeats 4000000 in
theorem step_write {w : World} {bm br : Nat} {vm vr : Value} {m : Mem} (h : Pair w bm vm br vr m) (hm : m.ok) (tb : E.Tab w) (hc : m.count < 1000000) (ok : Int) (oa on : Int) (ow : Nat) (how : ow < 4294967296) (hk : ok = 0) :
    Calls Tryd.prog 14 #[.pointer (some ⟨bm, 0, none⟩), .pointer (some ⟨br, 0, none⟩), .agg #[.int .i64 ok, .int .i64 oa, .int .i64 on, .int .u32 (ow : Nat)]] w (StepPost w bm vm br vr (m.write oa ow)) := by
  subst hk
  have h0 := h.keep ((Below.refl _ _).alloc (Nat.le_refl _) (.cells #[.int .i64 0, .int .i64 oa, .int .i64 on, .int .u32 (ow : Nat)] 35))
  have sv0 : Save (fun k => FT bm vm k ∨ FT br vr k) w (w.alloc (.cells #[.int .i64 0, .int .i64 oa, .int .i64 on, .int .u32 (ow : Nat)] 35)) := (Save.refl _ _).alloc _
  have hbx := heap_alloc_new w (.cells #[.int .i64 0, .int .i64 oa, .int .i64 on, .int .u32 (ow : Nat)] 35)
  have HOKM := Lib.hid hm
  have HTB := Lib.hid (tb.below tb.pos ((Below.refl w.heap.size w).alloc (Nat.le_refl _) (.cells #[.int .i64 0, .int .i64 oa, .int .i64 on, .int .u32 (ow : Nat)] 35)))
  have HC := Lib.hid hc
  have HOW := Lib.hid how
  have hltm := h.pm.lt
  have hltr := h.rm.lt
  have HLT := Lib.hid (And.intro hltm hltr)
  have HH := Lib.hid (And.intro h0 (And.intro sv0 hbx))
  have HWS : Hid (w.heap.size < (w.alloc (.cells #[.int .i64 0, .int .i64 oa, .int .i64 on, .int .u32 (ow : Nat)] 35)).heap.size) := Lib.hid (blk_lt hbx)
  have NB : Hid (¬ FT bm vm w.heap.size ∧ ¬ FT br vr w.heap.size) := Lib.hid ⟨fun e => by have := hltm _ e; omega, fun e => by have := hltr _ e; omega⟩
  clear h h0 sv0 hbx hm tb hc how hltm hltr
  go_enter Tryd.func14, Tryd.ntmps14
  have b1 := blk_cell HH.out.2.2 1
  have b2 := blk_cell HH.out.2.2 2
  have b3 := blk_cell HH.out.2.2 3
  simp only [List.getElem?_toArray, List.getElem?_cons_succ, List.getElem?_cons_zero] at b1 b2 b3
  have B123 := Lib.hid (And.intro b1 (And.intro b2 b3))
  clear b1 b2 b3
  go_wp2_with fail
  go_region_held3 (fun w' => w'.cell? ⟨w.heap.size, 1, none⟩ = some (.int .i64 oa) ∧ w'.cell? ⟨w.heap.size, 3, none⟩ = some (.int .u32 ((ow : Nat) : Int))) (first | exact ⟨B123.out.1, B123.out.2.2⟩ | exact ⟨x0, x1⟩ | exact ⟨by assumption, by assumption⟩ | go_keep)
    ((first | (go_at_call 17; refine (pwrite_any HH.out.1.pm.drew HOKM.out (HTB.out.below HTB.out.pos (Below.refl _ _).drew) HC.out oa ow HOW.out).mono ?_; rintro r w1 ⟨rfl, hp, hs⟩; have d2 := (hs.block _ HWS.out NB.out.1).trans HH.out.2.2; have x0 := blk_cell d2 1; have x1 := blk_cell d2 3) | (go_at_call 25; refine (rwrite_any (HH.out.1.right' hs) HOKM.out HC.out oa ow HOW.out).mono ?_; rintro r w2 ⟨rfl, hp2, hs2⟩; have d3 := (hs2.block _ (blk_lt d2) NB.out.2).trans d2; have x0 := blk_cell d3 1; have x1 := blk_cell d3 3)))
  have hpr := (Pair.two (w := (w.alloc (.cells #[.int .i64 0, .int .i64 oa, .int .i64 on, .int .u32 (ow : Nat)] 35)).drew) ⟨HH.out.1.pm.drew, RM.drew HH.out.1.rm, HH.out.1.apart⟩ hp hs hp2 hs2)
  have FIN := Lib.hid (show Pair _ bm vm br vr (m.write oa ow) ∧ Save (fun k => FT bm vm k ∨ FT br vr k) w _ ∧ (∀ k, FT bm vm k → FT bm vm k ∨ w.heap.size ≤ k) ∧ (∀ k, FT br vr k → FT br vr k ∨ w.heap.size ≤ k) from ⟨hpr.1, (HH.out.2.1.drew).trans hpr.2, fun k hk => .inl hk, fun k hk => .inl hk⟩)
  have OK9 : Hid ((m.write oa ow).ok) := Lib.hid (write_ok HOKM.out oa HOW.out)
  clear hp hs hp2 hs2 hpr d2 d3
  obtain ⟨g9, q9, hv9, _, _, _⟩ := FIN.out.1.rm.shape OK9.out
  have c0 := blk_cell FIN.out.1.rm.blk 0
  have c2 := blk_cell FIN.out.1.rm.blk 2
  have c4 := blk_cell FIN.out.1.rm.blk 4
  simp only [rcs, List.getElem?_toArray, List.getElem?_cons_succ, List.getElem?_cons_zero] at c0 c2 c4
  rw [hv9] at c0
  have ON := Lib.hid (fun n => pon_any (FIN.out.1.pm.drewN n))
  have WR := Lib.hid (fun n => pwrites_any (FIN.out.1.pm.drewN n))
  have LN := Lib.hid (fun n => plen_any (FIN.out.1.pm.drewN n))
  have hse := not_beq_self (m.write oa ow).off
  clear hv9
  go_wp2_with fail
  go_quiet ((first | (go_at_call 23; exact Calls.quiet_of_same (ON.out _)) | (go_at_call 21; exact Calls.quiet_of_same (WR.out _)) | (go_at_call 31; exact Calls.quiet_of_same (LN.out _))))
  go_wp2_with fail
  refine bodyPost_ret (v := .tuple #[.pointer (some ⟨bm, 0, none⟩), .pointer (some ⟨br, 0, none⟩), .bool true]) (by simp [results, Tryd.results14, go_sem]) rfl ?_
  exact ⟨bm, _, br, _, rfl, ⟨FIN.out.1.pm.drewN _, FIN.out.1.rm.drewN _, FIN.out.1.apart⟩, FIN.out.2.1.drewN _, FIN.out.2.2.1, FIN.out.2.2.2⟩
set_option maxHeartbeats 4000000 in
theorem step_flip {w : World} {bm br : Nat} {vm vr : Value} {m : Mem} (h : Pair w bm vm br vr m) (hm : m.ok) (tb : E.Tab w) (hc : m.count < 1000000) (ok : Int) (oa on : Int) (ow : Nat) (how : ow < 4294967296) (hk : ok = 2) :
    Calls Tryd.prog 14 #[.pointer (some ⟨bm, 0, none⟩), .pointer (some ⟨br, 0, none⟩), .agg #[.int .i64 ok, .int .i64 oa, .int .i64 on, .int .u32 (ow : Nat)]] w (StepPost w bm vm br vr (m.flip oa on)) := by
  subst hk
  have h0 := h.keep ((Below.refl _ _).alloc (Nat.le_refl _) (.cells #[.int .i64 2, .int .i64 oa, .int .i64 on, .int .u32 (ow : Nat)] 35))
  have sv0 : Save (fun k => FT bm vm k ∨ FT br vr k) w (w.alloc (.cells #[.int .i64 2, .int .i64 oa, .int .i64 on, .int .u32 (ow : Nat)] 35)) := (Save.refl _ _).alloc _
  have hbx := heap_alloc_new w (.cells #[.int .i64 2, .int .i64 oa, .int .i64 on, .int .u32 (ow : Nat)] 35)
  have HOKM := Lib.hid hm
  have HTB := Lib.hid (tb.below tb.pos ((Below.refl w.heap.size w).alloc (Nat.le_refl _) (.cells #[.int .i64 2, .int .i64 oa, .int .i64 on, .int .u32 (ow : Nat)] 35)))
  have HC := Lib.hid hc
  have HOW := Lib.hid how
  have hltm := h.pm.lt
  have hltr := h.rm.lt
  have HLT := Lib.hid (And.intro hltm hltr)
  have HH := Lib.hid (And.intro h0 (And.intro sv0 hbx))
  have HWS : Hid (w.heap.size < (w.alloc (.cells #[.int .i64 2, .int .i64 oa, .int .i64 on, .int .u32 (ow : Nat)] 35)).heap.size) := Lib.hid (blk_lt hbx)
  have NB : Hid (¬ FT bm vm w.heap.size ∧ ¬ FT br vr w.heap.size) := Lib.hid ⟨fun e => by have := hltm _ e; omega, fun e => by have := hltr _ e; omega⟩
  clear h h0 sv0 hbx hm tb hc how hltm hltr
  go_enter Tryd.func14, Tryd.ntmps14
  have b1 := blk_cell HH.out.2.2 1
  have b2 := blk_cell HH.out.2.2 2
  have b3 := blk_cell HH.out.2.2 3
  simp only [List.getElem?_toArray, List.getElem?_cons_succ, List.getElem?_cons_zero] at b1 b2 b3
  have B123 := Lib.hid (And.intro b1 (And.intro b2 b3))
  clear b1 b2 b3
  go_wp2_with fail
  go_region_held3 (fun w' => w'.cell? ⟨w.heap.size, 1, none⟩ = some (.int .i64 oa) ∧ w'.cell? ⟨w.heap.size, 2, none⟩ = some (.int .i64 on)) (first | exact ⟨B123.out.1, B123.out.2.1⟩ | exact ⟨x0, x1⟩ | exact ⟨by assumption, by assumption⟩ | go_keep)
    ((first | (go_at_call 18; refine (pflip_mem HH.out.1.pm.drew HOKM.out oa on).mono ?_; rintro r w1 ⟨rfl, hp, hs⟩; have d2 := (hs.block _ HWS.out NB.out.1).trans HH.out.2.2; have x0 := blk_cell d2 1; have x1 := blk_cell d2 2) | (go_at_call 34; refine (rflip_mem (HH.out.1.right' hs) HOKM.out oa on).mono ?_; rintro r w2 ⟨rfl, hp2, hs2⟩; have d3 := (hs2.block _ (blk_lt d2) NB.out.2).trans d2; have x0 := blk_cell d3 1; have x1 := blk_cell d3 2)))
  have hpr := (Pair.two (w := (w.alloc (.cells #[.int .i64 2, .int .i64 oa, .int .i64 on, .int .u32 (ow : Nat)] 35)).drew) ⟨HH.out.1.pm.drew, RM.drew HH.out.1.rm, HH.out.1.apart⟩ hp hs hp2 hs2)
  have FIN := Lib.hid (show Pair _ bm vm br vr (m.flip oa on) ∧ Save (fun k => FT bm vm k ∨ FT br vr k) w _ ∧ (∀ k, FT bm vm k → FT bm vm k ∨ w.heap.size ≤ k) ∧ (∀ k, FT br vr k → FT br vr k ∨ w.heap.size ≤ k) from ⟨hpr.1, (HH.out.2.1.drew).trans hpr.2, fun k hk => .inl hk, fun k hk => .inl hk⟩)
  have OK9 : Hid ((m.flip oa on).ok) := Lib.hid (flip_ok HOKM.out oa on)
  clear hp hs hp2 hs2 hpr d2 d3
  obtain ⟨g9, q9, hv9, _, _, _⟩ := FIN.out.1.rm.shape OK9.out
  have c0 := blk_cell FIN.out.1.rm.blk 0
  have c2 := blk_cell FIN.out.1.rm.blk 2
  have c4 := blk_cell FIN.out.1.rm.blk 4
  simp only [rcs, List.getElem?_toArray, List.getElem?_cons_succ, List.getElem?_cons_zero] at c0 c2 c4
  rw [hv9] at c0
  have ON := Lib.hid (fun n => pon_any (FIN.out.1.pm.drewN n))
  have WR := Lib.hid (fun n => pwrites_any (FIN.out.1.pm.drewN n))
  have LN := Lib.hid (fun n => plen_any (FIN.out.1.pm.drewN n))
  have hse := not_beq_self (m.flip oa on).off
  clear hv9
  go_wp2_with fail
  go_quiet ((first | (go_at_call 23; exact Calls.quiet_of_same (ON.out _)) | (go_at_call 21; exact Calls.quiet_of_same (WR.out _)) | (go_at_call 31; exact Calls.quiet_of_same (LN.out _))))
  go_wp2_with fail
  refine bodyPost_ret (v := .tuple #[.pointer (some ⟨bm, 0, none⟩), .pointer (some ⟨br, 0, none⟩), .bool true]) (by simp [results, Tryd.results14, go_sem]) rfl ?_
  exact ⟨bm, _, br, _, rfl, ⟨FIN.out.1.pm.drewN _, FIN.out.1.rm.drewN _, FIN.out.1.apart⟩, FIN.out.2.1.drewN _, FIN.out.2.2.1, FIN.out.2.2.2⟩
end M
end Go.Proofs.YtehpbjkacdmlaaaDoor
