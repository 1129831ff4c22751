/-
  Sum: the label's words, two lengths and the numbers, mixed in order; whatever the memory, nothing that was there is changed.
-/
import Derived.Test.YtcgppbbpdnobfaaHIter
namespace Go.Proofs.Ytcgppbbpdnobfaa
open Go.RowKit Go.Shelf
attribute [local go_sem] Oper.semAt_some
namespace H

set_option maxRecDepth 100000 in
set_option maxHeartbeats 1000000 in
theorem sum_in (s : ByteArray) (A : Option Addr) (n cap : Nat) (zs : List Int) (w : World) (hs : s.size ≤ 140737488351232) (hl : zs.length = n) (hn : n ≤ 140737488351232) (hr : RdI w w.heap.size .i64 A zs) :
    CallsIn Fence.wide 3 Try.prog 11 #[.string s, .slice A n cap] w fun e w' => e = .returned (.int .u64 (sumI (bytesOf s) zs)) ∧ Below w.heap.size w w' := by
  have HR := Lib.hid hr
  have HL := Lib.hid hl
  clear hr hl
  refine callsIn_of_wp_marks Try.func11 rfl trivial ?_ rfl
  simp only [Try.ntmps11, List.size_toArray, List.length_cons, List.length_nil, Nat.reduceAdd, Nat.reduceSub, Array.replicate_succ, Array.replicate_zero, List.push_toArray, List.append_toArray, List.nil_append, List.cons_append]
  gi_wp2_with (refine ⟨trivial, ?_⟩; gi_at_call 24; refine (wordsS_in _ _ _).mono ?_; rintro e w' ⟨rfl, rfl⟩)
  have bS := Boxed.new w 23 (.int .u64 0)
  have bT := Boxed.new (w.alloc (.cells #[.int .u64 0] 23)) 9 (.string s)
  rw [World.size_alloc] at bT
  have hB0 : Below w.heap.size w ((w.alloc (.cells #[.int .u64 0] 23)).alloc (.cells #[.string s] 9)) := ((Below.refl _ w).alloc (Nat.le_refl _) _).alloc (by simp) _
  refine wpIn_rangeFunc_ownF rfl (by omega) (gf := 30) (lb := #[.pointer (some ⟨w.heap.size + 1, 0, none⟩)]) rfl trivial (enters_of Try.func30 (by kernel_rfl) rfl)
    (itS_stops 2 (by omega) (w.heap.size + 1) w.heap.size s hs _ (by simp) bT.cell) KpB.t (KpB.b (by simp; omega) (by simp)) (Below.refl _ _) (fun _ => rfl)
    (fun pre W => Boxed W w.heap.size 23 (.int .u64 (foldI 0 pre)) ∧ Below w.heap.size w W)
    (fun _ _ _ => False)
    (OwnFrom.and (Own.from (boxed_own _ _ (fun pre => .int .u64 (foldI 0 pre))) _) (ownFrom_below (Nat.le_refl _) (by simp; omega)))
    (fun _ _ _ _ _ hs _ _ => hs)
    ⟨bS.alloc _, hB0⟩
    (fun x => { tmps := #[.string s, .slice A n cap, undef, undef, .int .u64 0, .pointer (some ⟨w.heap.size, 0, none⟩), .int .u64 x, undef, undef, .string s, .func (.func 30) #[] #[.pointer (some ⟨w.heap.size + 1, 0, none⟩)], .int .u64 x, undef, undef, undef, undef, undef, undef, undef, undef, undef, undef, undef, undef, undef, undef, undef, undef, undef, undef, undef, undef, undef, undef, undef, undef, undef], defers := [] }) ?assign ?body ?done ?stop
  case assign =>
    intro l x W K hK
    gi_wp2
    exact hK
  case body =>
    rintro l pre x W ⟨hb, hB⟩ _
    have hc := hb.cell
    have hf := hb.frozen
    gi_wp2_with (refine ⟨trivial, ?_⟩; gi_at_call 25; refine (CallsIn.inRound l (callsIn_wide.2 (mix_any _ _ _))).mono ?_; rintro e w' ⟨rfl, rfl⟩)
    exact ⟨KeepsOthers.setCell _ _ _, ⟨(Below.refl _ W).setCell (p := ⟨w.heap.size, 0, none⟩) (Nat.le_refl _) _, World.cell?_setCell_other _ _ _ _ (by simp)⟩, by rw [foldI_snoc]; exact hb.set _, hB.setCell (p := ⟨w.heap.size, 0, none⟩) (Nat.le_refl _) _⟩
  case done =>
    rintro D ys W hD rfl ⟨hb, hB⟩ hK
    have hc := hb.cell
    have hf := hb.frozen
    gi_wp2_with (refine ⟨trivial, ?_⟩; gi_at_call 25; refine (callsIn_wide.2 (mix_any _ _ _)).mono ?_; rintro e w' ⟨rfl, rfl⟩)
    gi_loopw [27] (fun i wr => ∃ k : Nat, k ≤ n ∧ i = .int .i64 k ∧ Boxed wr w.heap.size 23 (.int .u64 (foldI (mixI (mixI (foldI 0 (words (bytesOf s))) s.size) n) (zs.take k))) ∧ Below w.heap.size w wr ∧ wr.heap[D]? = some (.deferred (some [])))
      (fun i _ => n - (intOf i).toNat)
    case atStart =>
      have hb2 := (hb.set (.int .u64 (mixI (foldI 0 (words (bytesOf s))) s.size))).set (.int .u64 (mixI (mixI (foldI 0 (words (bytesOf s))) s.size) n))
      have hB2 := (hB.setCell (p := ⟨w.heap.size, 0, none⟩) (Nat.le_refl _) (.int .u64 (mixI (foldI 0 (words (bytesOf s))) s.size))).setCell (p := ⟨w.heap.size, 0, none⟩) (Nat.le_refl _) (.int .u64 (mixI (mixI (foldI 0 (words (bytesOf s))) s.size) n))
      have hK2 := ((KeepsOthers.setCell W ⟨w.heap.size, 0, none⟩ (.int .u64 (mixI (foldI 0 (words (bytesOf s))) s.size))).trans (KeepsOthers.setCell _ ⟨w.heap.size, 0, none⟩ (.int .u64 (mixI (mixI (foldI 0 (words (bytesOf s))) s.size) n)))).same D _ hK rfl
      refine ⟨0, by omega, rfl, ?_, ?_, ?_⟩
      · simpa [mixI_wrap, foldI_nil] using hb2
      · simpa [mixI_wrap] using hB2
      · simpa [mixI_wrap] using hK2
    case round =>
      obtain ⟨k, hk, rfl, hb, hB, hK⟩ := hrel
      clear hc hf
      have hc := hb.cell
      have hf := hb.frozen
      generalize hF : foldI (mixI (mixI (foldI 0 (words (bytesOf s))) s.size) n) (zs.take k) = f at hc hb
      have HF := Lib.hid hF
      clear hF
      by_cases hlt : k < n
      · obtain ⟨ad, rfl, hblk, hx⟩ := HR.out.below hB k (by rw [HL.out]; exact hlt)
        generalize hz : zs[k]?.getD 0 = z at hx
        have HZ := Lib.hid hz
        clear hz
        gi_wp2_with (refine ⟨trivial, ?_⟩; gi_at_call 25; refine (callsIn_wide.2 (mix_any _ _ _)).mono ?_; rintro e w' ⟨rfl, rfl⟩)
        go_roundw
        case rel =>
          have hi : k < zs.length := by rw [HL.out]; exact hlt
          have hz : zs[k] = z := by rw [← HZ.out, List.getElem?_eq_getElem hi]; rfl
          have e : foldI (mixI (mixI (foldI 0 (words (bytesOf s))) s.size) n) (zs.take (k + 1)) = mixI f (IntKind.u64.wrap z) := by
            rw [List.take_succ_eq_append_getElem hi, foldI_snoc, HF.out, mixI_wrap, hz]
          exact ⟨k + 1, by omega, by go_num, by rw [e]; exact hb.set _, hB.setCell (p := ⟨w.heap.size, 0, none⟩) (Nat.le_refl _) _, (KeepsOthers.setCell _ _ _).same D _ hK rfl⟩
        case measure => simp [intOf]; omega
      · obtain rfl : k = n := by omega
        gi_wp2
        refine ⟨by simp, .inl ⟨_, _, rfl, run_takeDeferred hK, ?_⟩⟩
        refine ⟨_, results_tmp rfl _ _ _, ?_, hB.trans (belowK_b (w := w) (Nat.le_refl _) wr D _ _ (by simp at hD; omega) hK rfl rfl)⟩
        show Ending.returned (.int .u64 f) = _
        refine ret_int ?_
        have e := HF.out
        rw [List.take_of_length_le (by rw [HL.out]; exact Nat.le_refl _)] at e
        rw [← e]
        unfold sumI
        rw [bytesOf_length, HL.out]
  case stop =>
    rintro D c pre W _ _ h _
    exact h.elim

theorem sum_any (s : ByteArray) (A : Option Addr) (n cap : Nat) (zs : List Int) (w : World) (hs : s.size ≤ 140737488351232) (hl : zs.length = n) (hn : n ≤ 140737488351232) (hr : RdI w w.heap.size .i64 A zs) :
    Calls Try.prog 11 #[.string s, .slice A n cap] w fun e w' => e = .returned (.int .u64 (sumI (bytesOf s) zs)) ∧ Below w.heap.size w w' :=
  callsIn_wide.1 (sum_in s A n cap zs w hs hl hn hr)

end H
end Go.Proofs.Ytcgppbbpdnobfaa
