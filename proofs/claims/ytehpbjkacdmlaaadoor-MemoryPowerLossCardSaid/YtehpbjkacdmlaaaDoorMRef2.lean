/-
  Contracts of the specification of layer 6: New, Clone.
-/
import Derived.Test.YtehpbjkacdmlaaaDoorMRef
import Derived.Deep.DeepCutAuto
import Derived.Deep.RegionHeld3
import Derived.Deep.LoopGhost
import Derived.Deep.AppendLies
import Derived.Deep.RegionLaw
namespace Go.Proofs.YtehpbjkacdmlaaaDoor
open Go.RowKit
namespace M
open H
set_option linter.unusedVariables false
set_option maxRecDepth 100000
theorem infoW : (Tryd.prog.info? 51).map (fun i => (i.zero, i.size, i.bytes)) = some (some (.int .u64 0), 1, 8) := by kernel_rfl
/-- What New leaves: a memory in new blocks. -/
def Made (R : World → Nat → Value → Mem → Prop) (w w' : World) (b : Nat) (v : Value) (m : Mem) : Prop := R w' b v m ∧ (∀ k, FT b v k → w.heap.size ≤ k) ∧ Below w.heap.size w w'
/-- What New returns. -/
def NewPost (R : World → Nat → Value → Mem → Prop) (n : Int) (w : World) (r : Ending) (w' : World) : Prop :=
  if 1 ≤ n ∧ n ≤ 4096 then ∃ b v, r = .returned (.tuple #[.pointer (some ⟨b, 0, none⟩), .int .i64 0]) ∧ Made R w w' b v (Mem.new n.toNat)
  else r = .returned (.tuple #[.pointer none, .int .i64 5]) ∧ w' = w
theorem newPost_in {R : World → Nat → Value → Mem → Prop} {n : Nat} (h1 : 1 ≤ n) (h2 : n ≤ 4096) {w w' : World} {b : Nat} {v : Value} (h : Made R w w' b v (Mem.new n)) {r : Ending} (hr : r = .returned (.tuple #[.pointer (some ⟨b, 0, none⟩), .int .i64 0])) : NewPost R n w r w' := by
  unfold NewPost
  rw [if_pos (by omega)]
  exact ⟨b, v, hr, h⟩
theorem newPost_out {R : World → Nat → Value → Mem → Prop} {n : Int} (h : n < 1 ∨ 4096 < n) {w : World} {r : Ending} (hr : r = .returned (.tuple #[.pointer none, .int .i64 5])) : NewPost R n w r w := by
  unfold NewPost
  rw [if_neg (by omega)]
  exact ⟨hr, rfl⟩
/-- An append to the slice of a struct, stored in its first cell. -/
theorem obj_grow {T e : TypeId} {w0 wr w9 : World} {b k g cap : Nat} {cs : Array Value} {v u : Value} {xs : List Value} {tmp : Obj} (hT : e ≠ T) (hobj : Obj1 T e wr b cs v xs) (hbb : w0.heap.size ≤ b) (hvb : ∀ j, v.ownBlock = some j → w0.heap.size ≤ j) (hB : Below w0.heap.size w0 wr)
    (hown : w9.ownsRow 0 e 1 (.slice (some ⟨g, 0, none⟩) (k + 1) cap) (k + 1) (xs ++ [u])) (hl : xs.length = k) (hgrow : (wr.drew.alloc tmp).grownBy w9 v.ownBlock) (hat : v.ownBlock = some g ∨ g = (wr.drew.alloc tmp).heap.size) :
    Obj1 T e (w9.setCell ⟨b, 0, none⟩ (.slice (some ⟨g, 0, none⟩) (k + 1) cap)) b (cs.setIfInBounds 0 (.slice (some ⟨g, 0, none⟩) (k + 1) cap)) (.slice (some ⟨g, 0, none⟩) (k + 1) cap) (xs ++ [u]) ∧ w0.heap.size ≤ g ∧ Below w0.heap.size w0 (w9.setCell ⟨b, 0, none⟩ (.slice (some ⟨g, 0, none⟩) (k + 1) cap)) := by
  have hlt := blk_lt hobj.blk
  have hoff := own_off hobj.own hobj.blk hT
  have hb9 : w9.heap[b]? = some (.cells cs T (0, 0)) := by
    rw [hgrow.block b (by simp; omega) (fun e => hoff e.symm)]
    have h1 := ((Below.refl wr.heap.size wr).drew.alloc (Nat.le_refl _) tmp).block b hlt
    exact h1.trans hobj.blk
  have hlen : (xs ++ [u]).length = k + 1 := by simp [hl]
  refine ⟨⟨blk_set hb9 0 _, ?_⟩, ?_, ?_⟩
  · rw [hlen]
    exact own_setoff hown (own_off hown hb9 hT)
  · rcases hat with h | h
    · exact hvb g h
    · have := hB.size
      rw [h]
      simp
      omega
  · have h1 : Below w0.heap.size w0 (wr.drew.alloc tmp) := hB.drew.alloc (by simpa using hB.size) tmp
    have h2 : Save (fun j => v.ownBlock = some j) (wr.drew.alloc tmp) w9 := ⟨hgrow.os, hgrow.tape, hgrow.output, hgrow.size, fun j hj hf => hgrow.block j hj fun e => hf e.symm⟩
    exact (h1.trans (h2.below h1.size hvb)).setCell (p := ⟨b, 0, none⟩) hbb _
theorem rep_snoc (k : Nat) : List.replicate (k + 1) (Value.int .u64 0) = List.replicate k (Value.int .u64 0) ++ [Value.int .u64 0] := List.replicate_succ'
theorem codeC_new (n : Nat) : codeC (Mem.new n) = List.replicate n (Value.int .u64 0) := by
  unfold codeC Mem.new
  rw [List.map_replicate]; rfl
set_option maxHeartbeats 4000000 in
theorem rnew_any (n : Int) (w : World) : Calls Tryd.prog 13 #[.int .i64 n] w (NewPost RM n w) := by
  by_cases hn : 1 ≤ n ∧ n ≤ 4096
  · obtain ⟨h1, h2⟩ := hn
    obtain ⟨l, rfl⟩ : ∃ l : Nat, n = l := ⟨n.toNat, by omega⟩
    have HK := Lib.hid (show 1 ≤ l ∧ l ≤ 4096 by omega)
    have hlm : l ≤ 4096 := by omega
    obtain ⟨i0, hi, hz0, hz1, hz2⟩ := info_parts infoW
    have HE := Lib.hid (fun W => E.renc_any 0 (by decide) W)
    rw [enc_zero] at HE
    obtain ⟨cs0, hcs0⟩ : ∃ cs0 : Array Value, cs0 = #[.slice none 0 0, .int .i64 0, .int .i64 0, .int .i64 0, .bool false] := ⟨_, rfl⟩
    go_enter Tryd.func13, Tryd.ntmps13
    go_wp2_with fail
    go_loopg [5] l (fun g i wr => ∃ (k : Nat) (v : Value), k + g = l ∧ i = .int .i64 (k : Nat) ∧ Obj1 74 51 wr w.heap.size #[v, .int .i64 0, .int .i64 0, .int .i64 0, .bool false] v (List.replicate k (.int .u64 0)) ∧ (∀ j, v.ownBlock = some j → w.heap.size ≤ j) ∧ Below w.heap.size w wr)
    case atStart => exact ⟨0, _, Nat.zero_add _, rfl, ⟨heap_alloc_new w _, World.ownsRow_nil _ _ _ _⟩, (fun j hj => by simp [Value.ownBlock] at hj), (Below.refl w.heap.size w).alloc (Nat.le_refl _) _⟩
    case round =>
      obtain ⟨k, v, hg, rfl, hobj, hvb, hB⟩ := hrel
      have HG := Lib.hid hg
      have hkl : k ≤ l := by omega
      clear hg
      by_cases hlt : k < l
      · have hki : (k : Int) < (l : Int) := by omega
        have c0 := blk_cell hobj.blk 0
        have f0 := blk_frozen hobj.blk 0
        simp only [List.getElem?_toArray, List.getElem?_cons_zero] at c0
        have hlen : (List.replicate k (Value.int .u64 0)).length = k := List.length_replicate
        have hown := hobj.own
        rw [hlen] at hown
        have hoff := own_off hobj.own hobj.blk (by decide)
        have hblt := blk_lt hobj.blk
        have HO := Lib.hid (show wr.drew.ownsRow 0 51 1 v k (List.replicate k (.int .u64 0)) from hown)
        have HB := Lib.hid (And.intro hobj (And.intro hvb (And.intro hB hoff)))
        clear hown hobj hvb hB hoff hlen
        go_wp2_with fail
        go_region_law (first | (refine step_append_lies _ rfl (.tmp 23) (.tmp 25) 70 rfl 0 51 i0 _ 1 8 Tryd.underlying70 hi hz0 hz1 hz2 rfl (by decide) v k (List.replicate k (.int .u64 0)) rfl (HO.out.alloc _) ⟨wr.heap.size, 0, none⟩ 1 1 [.int .u64 0] rfl rfl (cell_one_new _ _ _) (by simp [Value.oneCell']) (by decide) (by unfold maxLen; omega) (by omega) (Nat.zero_le _) _ rfl ?_; intro g cap w9 hown' hgrow hat hlt9; have e0 := hgrow.cell_far ⟨w.heap.size, 0, none⟩ (by simp; omega) (fun e => HB.out.2.2.2 e.symm); have e1 := hgrow.frozen_far ⟨w.heap.size, 0, none⟩ (by simp; omega) (fun e => HB.out.2.2.2 e.symm); have HO9 := Lib.hid hown'; have HG9 := Lib.hid hgrow; have HA9 := Lib.hid hat; clear hown' hgrow hat) | (go_simp; go_at_call 32; refine (HE.out _).mono ?_; rintro r w2 ⟨rfl, rfl⟩))
        all_goals
          have hfin := obj_grow (by decide) HB.out.1 (Nat.le_refl _) HB.out.2.1 HB.out.2.2.1 HO9.out List.length_replicate HG9.out HA9.out
          rw [← rep_snoc] at hfin
          have HFIN := Lib.hid hfin
          clear hfin
          go_wp2_with fail
          go_roundg (gk - 1)
          case measure => have := HG.out; omega
          case rel => exact ⟨k + 1, _, by have := HG.out; omega, by go_num, by simpa using HFIN.out.1, (fun j hj => by have : g = j := (by simpa [Value.ownBlock] using hj); exact this ▸ HFIN.out.2.1), HFIN.out.2.2⟩
      · obtain rfl : k = l := by omega
        have hki : ¬ (k : Int) < (k : Int) := by omega
        clear hlt hkl
        have hc : codeC (Mem.new k) = List.replicate k (Value.int .u64 0) := codeC_new k
        have hmade : Made RM w wr w.heap.size v (Mem.new k) := ⟨by unfold RM; rw [hc]; exact hobj, fun j hj => by rcases hj with rfl | hj; exact Nat.le_refl _; exact hvb j hj, hB⟩
        have HM := Lib.hid hmade
        clear hobj hvb hB hc hmade
        go_wp2_with fail
        go_ret2
        exact newPost_in HK.out.1 HK.out.2 HM.out rfl
  · by_cases h1 : n < 1
    · clear hn
      go_enter Tryd.func13, Tryd.ntmps13
      go_wp2_with fail
      go_ret2
      exact newPost_out (.inl h1) rfl
    · have h2 : 4096 < n := by omega
      clear hn
      go_enter Tryd.func13, Tryd.ntmps13
      go_wp2_with fail
      go_ret2
      exact newPost_out (.inr h2) rfl
end M
end Go.Proofs.YtehpbjkacdmlaaaDoor
