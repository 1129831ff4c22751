/-
  Contracts of the specification of layer 6: New, Clone.
-/
import Derived.Test.YtnoohhpajoaaoaaDoorMRef
import Derived.Deep.DeepCutAuto
import Derived.Deep.RegionHeld3
import Derived.Deep.LoopGhost
import Derived.Deep.AppendLies
import Derived.Deep.RegionLaw
namespace Go.Proofs.YtnoohhpajoaaoaaDoor
open Go.RowKit
namespace M
open H
set_option linter.unusedVariables false
set_option maxRecDepth 100000
theorem infoW : (Tryd.prog.info? 75).map (fun i => (i.zero, i.size, i.bytes)) = some (some (.int .u64 0), 1, 8) := by kernel_rfl
/-- What New leaves: a memory in new blocks. -/
def Made (R : World → Nat → Value → Mem → Prop) (w w' : World) (b : Nat) (v : Value) (m : Mem) : Prop := R w' b v m ∧ (∀ k, FT b v k → w.heap.size ≤ k) ∧ Below w.heap.size w w'
/-- What New returns. -/
def NewPost (R : World → Nat → Value → Mem → Prop) (n : Int) (w : World) (r : Ending) (w' : World) : Prop :=
  if 1 ≤ n ∧ n ≤ 4096 then ∃ b v, r = .returned (.tuple #[.pointer (some ⟨b, 0, none⟩), .int .i64 0]) ∧ Made R w w' b v (Mem.new n.toNat)
  else r = .returned (.tuple #[.pointer none, .int .i64 5]) ∧ w' = w
theorem newPost_in {R : World → Nat → Value → Mem → Prop} {n : Nat} (h1 : 1 ≤ n) (h2 : n ≤ 4096) {w w' : World} {b : Nat} {v : Value} (h : Made R w w' b v (Mem.new n)) {r : Ending} (hr : r = .returned (.tuple #[.pointer (some ⟨b, 0, none⟩), .int .i64 0])) : NewPost R n w r w' := by
  unfold NewPost
  rw [if_pos (by omega)]
  exact ⟨b, v, hr, h⟩
theorem newPost_out {R : World → Nat → Value → Mem → Prop} {n : Int} (h : n < 1 ∨ 4096 < n) {w : World} {r : Ending} (hr : r = .returned (.tuple #[.pointer none, .int .i64 5])) : NewPost R n w r w := by
  unfold NewPost
  rw [if_neg (by omega)]
  exact ⟨hr, rfl⟩
/-- An append to the slice of a struct, stored in its first cell. -/
theorem obj_grow {T e : TypeId} {w0 wr w9 : World} {b k g cap : Nat} {cs : Array Value} {v u : Value} {xs : List Value} {tmp : Obj} (hT : e ≠ T) (hobj : Obj1 T e wr b cs v xs) (hbb : w0.heap.size ≤ b) (hvb : ∀ j, v.ownBlock = some j → w0.heap.size ≤ j) (hB : Below w0.heap.size w0 wr)
    (hown : w9.ownsRow 0 e 1 (.slice (some ⟨g, 0, none⟩) (k + 1) cap) (k + 1) (xs ++ [u])) (hl : xs.length = k) (hgrow : (wr.drew.alloc tmp).grownBy w9 v.ownBlock) (hat : v.ownBlock = some g ∨ g = (wr.drew.alloc tmp).heap.size) :
    Obj1 T e (w9.setCell ⟨b, 0, none⟩ (.slice (some ⟨g, 0, none⟩) (k + 1) cap)) b (cs.setIfInBounds 0 (.slice (some ⟨g, 0, none⟩) (k + 1) cap)) (.slice (some ⟨g, 0, none⟩) (k + 1) cap) (xs ++ [u]) ∧ w0.heap.size ≤ g ∧ Below w0.heap.size w0 (w9.setCell ⟨b, 0, none⟩ (.slice (some ⟨g, 0, none⟩) (k + 1) cap)) := by
  have hlt := blk_lt hobj.blk
  have hoff := own_off hobj.own hobj.blk hT
  have hb9 : w9.heap[b]? = some (.cells cs T (0, 0)) := by
    rw [hgrow.block b (by simp; omega) (fun e => hoff e.symm)]
    have h1 := ((Below.refl wr.heap.size wr).drew.alloc (Nat.le_refl _) tmp).block b hlt
    exact h1.trans hobj.blk
  have hlen : (xs ++ [u]).length = k + 1 := by simp [hl]
  refine ⟨⟨blk_set hb9 0 _, ?_⟩, ?_, ?_⟩
  · rw [hlen]
    exact own_setoff hown (own_off hown hb9 hT)
  · rcases hat with h | h
    · exact hvb g h
    · have := hB.size
      rw [h]
      simp
      omega
  · have h1 : Below w0.heap.size w0 (wr.drew.alloc tmp) := hB.drew.alloc (by simpa using hB.size) tmp
    have h2 : Save (fun j => v.ownBlock = some j) (wr.drew.alloc tmp) w9 := ⟨hgrow.os, hgrow.tape, hgrow.output, hgrow.size, fun j hj hf => hgrow.block j hj fun e => hf e.symm⟩
    exact (h1.trans (h2.below h1.size hvb)).setCell (p := ⟨b, 0, none⟩) hbb _
theorem rep_snoc (k : Nat) : List.replicate (k + 1) (Value.int .u64 0) = List.replicate k (Value.int .u64 0) ++ [Value.int .u64 0] := List.replicate_succ'
theorem codeC_new (n : Nat) : codeC (Mem.new n) = List.replicate n (Value.int .u64 0) := by
  unfold codeC Mem.new
  rw [List.map_replicate]; rfl
end M
end Go.Proofs.YtnoohhpajoaaoaaDoor
