/-
  The landed scrubber's iterator: visits and its closure.
-/
import Derived.Test.YtnoohhpajoaaoaaDoorMP2
import Derived.Test.YtnoohhpajoaaoaaDoorRange
import Derived.OwnWalkIn
import Derived.TacticsInMore
import Derived.LoopNIn
import Derived.LoopIn
import Derived.Shelf.RegionOpen
import Derived.Laws.Rows
namespace Go.Proofs.YtnoohhpajoaaoaaDoor
open Go.RowKit
attribute [local go_sem] Oper.semAt_some
namespace M
open H
set_option linter.unusedVariables false
set_option maxRecDepth 100000
set_option maxHeartbeats 1000000 in
theorem pvisits_in (n : Nat) (b : Nat) (k : Int) (w : World) :
    CallsIn Fence.wide n Tryd.prog 43 #[.pointer (some ⟨b, 0, none⟩), .int .i64 k] w fun e w' =>
      e = .returned (.func (.func 54) #[] #[.pointer (some ⟨w.heap.size, 0, none⟩), .pointer (some ⟨w.heap.size + 1, 0, none⟩)]) ∧
      w' = (w.alloc (.cells #[.pointer (some ⟨b, 0, none⟩)] 24)).alloc (.cells #[.int .i64 k] 3) := by
  refine callsIn_of_wp Tryd.func43 rfl trivial ?_ rfl
  simp only [Tryd.ntmps43, List.size_toArray, List.length_cons, List.length_nil, Nat.reduceAdd, Nat.reduceSub, Array.replicate_succ, Array.replicate_zero, List.push_toArray, List.append_toArray, List.nil_append, List.cons_append]
  gi_wp2
  go_ret
  exact ⟨rfl, rfl⟩
/-- What the iterator's closure finds where it begins a round: the two boxes, the memory. -/
structure VI (b Bm : Nat) (v : Value) (n : Int) (m : Mem) (W : World) : Prop where
  boxm : W.heap[Bm]? = some (.cells #[.pointer (some ⟨b, 0, none⟩)] 24 (0, 0))
  boxn : W.heap[Bm + 1]? = some (.cells #[.int .i64 n] 3 (0, 0))
  pm : PM W b v m
theorem VI.drewN {b Bm : Nat} {v : Value} {n : Int} {m : Mem} {W : World} (h : VI b Bm v n m W) (q : Nat) : VI b Bm v n m (W.drewN q) := ⟨h.boxm, h.boxn, h.pm.drewN q⟩
set_option maxHeartbeats 2000000 in
theorem it_in (nf : Nat) (hn : 1 ≤ nf) (l D : Nat) (o : Obj) (ho : o.isCells = false) (b Bm : Nat) (v : Value) (n : Int) (m : Mem) (hok : m.ok) (I Y : Nat → World → Prop)
    (hI : ∀ k W, I k W → VI b Bm v n (m.visits k) W) (hID : ∀ k W q, I k W → I k (W.drewN q))
    (hIY : ∀ k W q, k < m.turns n → I k W → Y k ((W.drewN q).setCell ⟨b, 1, none⟩ (.int .i64 (((m.visits k).next + 1) % m.code.length : Nat))))
    (hY : ∀ k W1, k < m.turns n → Y k W1 → kept l D o W1 → YieldAt Fence.wide (nf - 1) Tryd.prog l #[.int .i64 ((m.visits k).next : Nat)] W1 fun e W' => e = .returned (.bool true) ∧ I (k + 1) W' ∧ kept l D o W')
    (W : World) (h0 : I 0 W) (hk0 : kept l D o W) :
    CallsIn Fence.wide nf Tryd.prog 54 #[.func (.yield l) #[] #[], .pointer (some ⟨Bm, 0, none⟩), .pointer (some ⟨Bm + 1, 0, none⟩)] W fun e W' => (∃ v, e = .returned v) ∧ I (m.turns n) W' ∧ kept l D o W' := by
  have hvi := hI 0 W h0
  obtain ⟨g, c, rfl, hc1, hc2, hgb⟩ := (show PM W b v m from hvi.pm).shape hok
  have b1 := blk_cell hvi.boxm 0
  have b2 := blk_cell hvi.boxn 0
  have c4 := blk_cell hvi.pm.blk 4
  have c0 := blk_cell hvi.pm.blk 0
  simp only [pcs, Mem.visits, List.getElem?_toArray, List.getElem?_cons_succ, List.getElem?_cons_zero] at b1 b2 c4 c0
  have HI := Lib.hid hI
  have HID := Lib.hid hID
  have HIY := Lib.hid hIY
  have HY := Lib.hid hY
  have H0 := Lib.hid h0
  have HK0 := Lib.hid hk0
  have HO := Lib.hid ho
  clear hI hID hIY hY h0 hk0 hvi ho
  cases hoff : m.off with
  | true =>
    have hT : m.turns n = 0 := by unfold Mem.turns; rw [hoff]; rfl
    rw [hT]
    replace c4 : W.cell? ⟨b, 4, none⟩ = some (.bool false) := by rw [c4, hoff]; rfl
    clear hT hoff hok
    refine callsIn_of_wp Tryd.func54 rfl trivial ?_ rfl
    simp only [Tryd.ntmps54, List.size_toArray, List.length_cons, List.length_nil, Nat.reduceAdd, Nat.reduceSub, Array.replicate_succ, Array.replicate_zero, List.push_toArray, List.append_toArray, List.nil_append, List.cons_append]
    gi_wp2
    refine bodyPost_ret (results_none rfl _ _ _) rfl ?_
    exact ⟨⟨_, rfl⟩, H0.out, HK0.out⟩
  | false =>
    obtain ⟨T, hT⟩ : ∃ T, m.turns n = T := ⟨_, rfl⟩
    obtain ⟨z, hz⟩ : ∃ z, (if (m.code.length : Int) < n then (m.code.length : Int) else n) = z := ⟨_, rfl⟩
    have hTz : T = z.toNat ∧ T ≤ m.code.length := by
      unfold Mem.turns at hT
      rw [hoff] at hT
      simp at hT
      split at hz <;> omega
    have HZ := Lib.hid hz
    clear hz
    have hmost := hok.most
    have HT := Lib.hid hT
    have HTZ := Lib.hid hTz
    rw [hT]
    replace c4 : W.cell? ⟨b, 4, none⟩ = some (.bool true) := by rw [c4, hoff]; rfl
    clear hT hoff hTz
    refine callsIn_of_wp Tryd.func54 rfl trivial ?_ rfl
    simp only [Tryd.ntmps54, List.size_toArray, List.length_cons, List.length_nil, Nat.reduceAdd, Nat.reduceSub, Array.replicate_succ, Array.replicate_zero, List.push_toArray, List.append_toArray, List.nil_append, List.cons_append]
    gi_wp2
    refine wpIn_wide.2 ?_
    go_still (by kernel_rfl)
    rw [HZ.out]
    change Exit.then _ _ _ _ W.drew
    gi_wp2
    gi_loopw [17] (fun i wr => ∃ k : Nat, k ≤ T ∧ i = .int .i64 k ∧ I k wr ∧ kept l D o wr) (fun i _ => T - (intOf i).toNat)
    case atStart => exact ⟨0, Nat.zero_le _, rfl, HID.out 0 W 1 H0.out, HK0.out.drewN 1⟩
    case round =>
      obtain ⟨k, hk, rfl, hi, hkk⟩ := hrel
      have hvk := HI.out k wr hi
      have hlen := visits_len m k
      have hokk := visits_ok hok k
      by_cases hlt : (k : Int) < z
      · have hkT : k < T := by have := HTZ.out.1; omega
        have hk9 : (k : Int) < 4096 := by have := HTZ.out.2; omega
        have d1 := blk_cell hvk.boxm 0
        have d0 := blk_cell hvk.pm.blk 0
        have dn := blk_cell hvk.pm.blk 1
        have df := blk_frozen hvk.pm.blk 1
        simp only [pcs, List.getElem?_toArray, List.getElem?_cons_succ, List.getElem?_cons_zero] at d1 d0 dn
        have hnl := hokk.next
        rw [hlen] at hnl
        have hnm := next_mod (x := (m.visits k).next) (n := m.code.length) hok.pos hok.most hnl
        have hnz : ¬ m.code = [] := fun e => by have := hok.pos; rw [e] at this; simp at this
        have hnz2 : ((m.code.length : Int) == 0) = false := by simp [hnz]
        have hn9 : ((m.visits k).next : Int) < 4096 := by omega
        have HN := Lib.hid (fun q => HIY.out k wr q (by rw [HT.out]; exact hkT) hi)
        have HKS := Lib.hid (fun (q : Nat) (u : Value) => (hkk.drewN q).cells (b := b) (i := 1) (v := u) HO.out (show (wr.drewN q).heap[b]? = _ from hvk.pm.blk) rfl)
        have HYk := Lib.hid (fun W1 => HY.out k W1 (by rw [HT.out]; exact hkT))
        clear hi hkk hvk hlen hokk hnl
        generalize (m.visits k).next = x at *
        gi_wp2
        refine wpIn_wide.2 ?_
        go_still_tail 11, (by kernel_rfl)
        change wpList _ _ _ _ _ wr.drew
        go_wp2_with fail
        obtain ⟨X, hX⟩ : ∃ X, X = (wr.drewN 1).setCell ⟨b, 1, none⟩ (.int .i64 (((x + 1) % m.code.length : Nat) : Int)) := ⟨_, rfl⟩
        change Code.wpIn _ _ _ _ _ _ ((wr.drewN 1).setCell ⟨b, 1, none⟩ (.int .i64 (((x + 1) % m.code.length : Nat) : Int)))
        rw [← hX]
        obtain ⟨fn, tmps, assign, body, hy, hR⟩ := HYk.out X (by rw [hX]; exact HN.out 1) (by rw [hX]; exact HKS.out 1 _)
        clear hX dn d1 d0 df
        gi_wp2
        refine hR.mono ?_
        rintro e W3 ⟨rfl, hJ3, hk3⟩
        have HJ3 := Lib.hid (And.intro hJ3 hk3)
        clear hR hJ3 hk3
        gi_wp2
        go_roundw
        case rel => exact ⟨k + 1, hkT, by go_num, HJ3.out.1, HJ3.out.2⟩
        case measure => simp [intOf]; omega
      · have hkT : k = T := by have := HTZ.out.1; omega
        subst hkT
        have HJ := Lib.hid (And.intro hi hkk)
        clear hi hkk hvk hlen hokk
        gi_wp2
        go_end0
        exact ⟨⟨_, rfl⟩, HJ.out.1, HJ.out.2⟩
end M
end Go.Proofs.YtnoohhpajoaaoaaDoor
