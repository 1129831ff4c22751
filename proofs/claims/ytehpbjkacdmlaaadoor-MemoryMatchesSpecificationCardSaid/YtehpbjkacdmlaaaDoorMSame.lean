/-
  same of the laws of package memory; step for every operation.
-/
import Derived.Test.YtehpbjkacdmlaaaDoorMStep3
namespace Go.Proofs.YtehpbjkacdmlaaaDoor
open Go.RowKit
namespace M
open H
set_option linter.unusedVariables false
set_option maxRecDepth 100000
set_option maxHeartbeats 4000000 in
theorem same_any {w : World} {bm br : Nat} {vm vr : Value} {m : Mem} (h : Pair w bm vm br vr m) (hm : m.ok) (tb : E.Tab w) :
    Calls Tryd.prog 15 #[.pointer (some ⟨bm, 0, none⟩), .pointer (some ⟨br, 0, none⟩)] w fun r w' => r = .returned (.bool true) ∧ ∃ n, w' = w.drewN n := by
  obtain ⟨g, q, rfl, _, _, _⟩ := h.rm.shape hm
  have HP := Lib.hid (fun n => (⟨h.pm.drewN n, h.rm.drewN n⟩ : PM (w.drewN n) bm vm m ∧ RM (w.drewN n) br _ m))
  have HT := Lib.hid (fun n => tb.drewN n)
  have HM := Lib.hid hm
  have hmost := hm.most
  clear h tb hm
  go_enter Tryd.func15, Tryd.ntmps15
  go_wp2_with fail
  go_loopg [5] (m.code.length + 2) (fun g i wr => ∃ (k n : Nat), k + g = m.code.length + 2 ∧ i = .int .i64 ((k : Int) - 1) ∧ wr = w.drewN n)
  case atStart => exact ⟨0, 0, by omega, rfl, rfl⟩
  case round =>
    obtain ⟨k, n, hg, rfl, hwr⟩ := hrel
    have HG := Lib.hid hg
    have hk : k ≤ m.code.length + 2 := by omega
    have hpr := HP.out n
    have htb := HT.out n
    rw [← hwr] at hpr htb
    have HWR := Lib.hid hwr
    have c0 := blk_cell hpr.2.blk 0
    simp only [rcs, List.getElem?_toArray, List.getElem?_cons_zero] at c0
    have HPR := Lib.hid hpr
    have HTB := Lib.hid htb
    clear hg hpr htb hwr
    by_cases hlt : k < m.code.length + 2
    · have hki : (k : Int) - 1 ≤ (m.code.length : Int) := by omega
      have hki2 : ¬ (m.code.length : Int) < (k : Int) - 1 := by omega
      have HLT := Lib.hid hlt
      have HRR := Lib.hid (fun W (h : RM W br (.slice (some ⟨g, 0, none⟩) m.code.length q) m) => rread_any h HM.out ((k : Int) - 1))
      have HRP := Lib.hid (pread_any HPR.out.1 HM.out HTB.out ((k : Int) - 1))
      generalize m.readR ((k : Int) - 1) = x at *
      obtain ⟨x1, x2⟩ := x
      dsimp only at HRR HRP
      clear hlt
      go_wp2_with fail
      refine HRP.out.mono ?_
      rintro r w1 ⟨rfl, nn, hw1⟩
      have hr1 : RM w1 br (.slice (some ⟨g, 0, none⟩) m.code.length q) m := by rw [hw1]; exact HPR.out.2.drewN nn
      have HW1 : Hid (w1 = w.drewN (n + nn)) := Lib.hid (by rw [hw1, HWR.out, World.drewN_drewN])
      have HR1 := Lib.hid hr1
      clear hw1 hr1
      go_wp2_with fail
      refine (HRR.out _ HR1.out).mono ?_
      rintro r w2 ⟨rfl, hw2⟩
      subst hw2
      go_wp2_with fail
      go_roundg (gk - 1)
      case measure => have := HG.out; have := HLT.out; omega
      case rel => exact ⟨k + 1, _, by have := HG.out; have := HLT.out; omega, by go_num, HW1.out⟩
    · obtain rfl : k = m.code.length + 2 := by omega
      have hki : ¬ (((m.code.length + 2 : Nat) : Int) - 1 ≤ (m.code.length : Int)) := by omega
      have hki2 : (m.code.length : Int) < ((m.code.length + 2 : Nat) : Int) - 1 := by omega
      clear hlt hk
      go_wp2_with fail
      go_ret
      exact ⟨rfl, n, HWR.out⟩
theorem step_any {w : World} {bm br : Nat} {vm vr : Value} {m : Mem} (h : Pair w bm vm br vr m) (hm : m.ok) (tb : E.Tab w) (hc : m.count < 1000000) (o : Opn) (ho : o.Ok) :
    Calls Tryd.prog 14 #[.pointer (some ⟨bm, 0, none⟩), .pointer (some ⟨br, 0, none⟩), .agg #[.int .i64 o.kind, .int .i64 o.a, .int .i64 o.n, .int .u32 (o.w : Nat)]] w (StepPost w bm vm br vr (stepM m o)) := by
  unfold stepM
  by_cases k0 : o.kind = 0
  · rw [if_pos k0]; exact step_write h hm tb hc _ _ _ _ ho.w k0
  rw [if_neg k0]
  by_cases k2 : o.kind = 2
  · rw [if_pos k2]; exact step_flip h hm tb hc _ _ _ _ ho.w k2
  rw [if_neg k2]
  by_cases k3 : o.kind = 3
  · rw [if_pos k3]; exact step_scrub h hm tb hc _ _ _ _ ho.w k3
  rw [if_neg k3]
  by_cases k4 : o.kind = 4
  · rw [if_pos k4]; exact step_fuse h hm tb hc _ _ _ _ ho.w ho.n k4
  rw [if_neg k4]
  by_cases k5 : o.kind = 5
  · rw [if_pos k5]; exact step_reset h hm tb hc _ _ _ _ ho.w k5
  rw [if_neg k5]
  by_cases k1 : o.kind = 1
  · exact step_read h hm tb hc _ _ _ _ ho.w k1
  by_cases k6 : o.kind = 6
  · exact step_clone h hm tb hc _ _ _ _ ho.w k6
  exact step_other h hm tb hc _ _ _ _ ho.w ⟨k0, k1, k2, k3, k4, k5, k6⟩
theorem Pair.save {w w' : World} {bm br : Nat} {vm vr : Value} {m : Mem} {F : Nat → Prop} (h : Pair w bm vm br vr m) (hs : Save F w w') (hF : ∀ k, (FT bm vm k ∨ FT br vr k) → ¬ F k) : Pair w' bm vm br vr m :=
  ⟨h.pm.save hs fun k hk => hF k (.inl hk), h.rm.save hs fun k hk => hF k (.inr hk), h.apart⟩
theorem Pair.lt {w : World} {bm br : Nat} {vm vr : Value} {m : Mem} (h : Pair w bm vm br vr m) : ∀ k, (FT bm vm k ∨ FT br vr k) → k < w.heap.size := fun k hk => by
  rcases hk with hk | hk
  · exact h.pm.lt k hk
  · exact h.rm.lt k hk
/-- Two pairs in blocks of their own, all behind those of w0. -/
structure Four (w0 w : World) (bm : Nat) (vm : Value) (br : Nat) (vr : Value) (m : Mem) (bc : Nat) (vc : Value) (bq : Nat) (vq : Value) (c : Mem) : Prop where
  one : Pair w bm vm br vr m
  two : Pair w bc vc bq vq c
  apart : ∀ k, (FT bm vm k ∨ FT br vr k) → ¬ (FT bc vc k ∨ FT bq vq k)
  new1 : ∀ k, (FT bm vm k ∨ FT br vr k) → w0.heap.size ≤ k
  new2 : ∀ k, (FT bc vc k ∨ FT bq vq k) → w0.heap.size ≤ k
  below : Below w0.heap.size w0 w
theorem Four.swap {w0 w : World} {bm br bc bq : Nat} {vm vr vc vq : Value} {m c : Mem} (h : Four w0 w bm vm br vr m bc vc bq vq c) : Four w0 w bc vc bq vq c bm vm br vr m := ⟨h.two, h.one, fun k h1 h2 => h.apart k h2 h1, h.new2, h.new1, h.below⟩
/-- A step of the first pair. -/
theorem Four.step {w0 w w' : World} {bm br bc bq bm' br' : Nat} {vm vr vc vq vm' vr' : Value} {m c m' : Mem} (h : Four w0 w bm vm br vr m bc vc bq vq c) (hp : Pair w' bm' vm' br' vr' m') (hs : Save (fun k => FT bm vm k ∨ FT br vr k) w w')
    (h1 : ∀ k, FT bm' vm' k → FT bm vm k ∨ w.heap.size ≤ k) (h2 : ∀ k, FT br' vr' k → FT br vr k ∨ w.heap.size ≤ k) : Four w0 w' bm' vm' br' vr' m' bc vc bq vq c := by
  have hsub : ∀ k, (FT bm' vm' k ∨ FT br' vr' k) → (FT bm vm k ∨ FT br vr k) ∨ w.heap.size ≤ k := fun k hk => by
    rcases hk with hk | hk
    · exact (h1 k hk).imp .inl id
    · exact (h2 k hk).imp .inr id
  refine ⟨hp, h.two.save hs fun k hk hf => h.apart k hf hk, fun k hk hc => ?_, fun k hk => ?_, h.new2, h.below.trans (hs.below h.below.size h.new1)⟩
  · rcases hsub k hk with h3 | h3
    · exact h.apart k h3 hc
    · have := h.two.lt k hc; omega
  · rcases hsub k hk with h3 | h3
    · exact h.new1 k h3
    · exact Nat.le_trans h.below.size h3
theorem Four.drewN {w0 w : World} {bm br bc bq : Nat} {vm vr vc vq : Value} {m c : Mem} (h : Four w0 w bm vm br vr m bc vc bq vq c) (n : Nat) : Four w0 (w.drewN n) bm vm br vr m bc vc bq vq c :=
  ⟨⟨h.one.pm.drewN n, h.one.rm.drewN n, h.one.apart⟩, ⟨h.two.pm.drewN n, h.two.rm.drewN n, h.two.apart⟩, h.apart, h.new1, h.new2, below_drewN h.below n⟩
end M
end Go.Proofs.YtehpbjkacdmlaaaDoor
