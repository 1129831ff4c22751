/-
  Objects in memory: a struct in a block of its own that holds a slice of its own, and what writes into it leave as it was. Nothing here speaks of one program.
-/
import Derived.Test.YtnoohhpajoaaoaaDoorKit
namespace Go.Proofs.YtnoohhpajoaaoaaDoor
open Go.RowKit
namespace H
set_option linter.unusedVariables false
/-- All that was there is as it was, but the blocks of F. -/
structure Save (F : Nat → Prop) (w w' : World) : Prop where
  os : w'.os = w.os
  tape : w'.tape = w.tape
  output : w'.output = w.output
  size : w.heap.size ≤ w'.heap.size
  block : ∀ k, k < w.heap.size → ¬ F k → w'.heap[k]? = w.heap[k]?
theorem Save.below {F : Nat → Prop} {B : Nat} {w w' : World} (h : Save F w w') (hB : B ≤ w.heap.size) (hF : ∀ k, F k → B ≤ k) : Below B w w' :=
  ⟨h.os, h.tape, h.output, h.size, fun k hk => h.block k (by omega) fun hf => by have := hF k hf; omega⟩
theorem Save.of_below {w w' : World} (F : Nat → Prop) (h : Below w.heap.size w w') : Save F w w' := ⟨h.os, h.tape, h.output, h.size, fun k hk _ => h.block k hk⟩
theorem Save.refl (F : Nat → Prop) (w : World) : Save F w w := ⟨rfl, rfl, rfl, Nat.le_refl _, fun _ _ _ => rfl⟩
theorem Save.drew {F : Nat → Prop} {a w : World} (h : Save F a w) : Save F a w.drew := ⟨h.os, h.tape, h.output, h.size, h.block⟩
theorem Save.drewN {F : Nat → Prop} {a w : World} (h : Save F a w) (n : Nat) : Save F a (w.drewN n) := ⟨h.os, h.tape, h.output, h.size, h.block⟩
theorem Save.trans {F : Nat → Prop} {a b c : World} (h : Save F a b) (k : Save F b c) : Save F a c :=
  ⟨k.os.trans h.os, k.tape.trans h.tape, k.output.trans h.output, Nat.le_trans h.size k.size, fun i hi hf => (k.block i (Nat.lt_of_lt_of_le hi h.size) hf).trans (h.block i hi hf)⟩
theorem Save.more {F G : Nat → Prop} {a b : World} (h : Save F a b) (hG : ∀ k, F k → G k) : Save G a b :=
  ⟨h.os, h.tape, h.output, h.size, fun i hi hf => h.block i hi fun hk => hf (hG i hk)⟩
/-- Writes that lie in new blocks do not count. -/
theorem Save.trim {F G : Nat → Prop} {w a b : World} (h : Save F w a) (k : Save G a b) (hG : ∀ j, G j → F j ∨ w.heap.size ≤ j) : Save F w b :=
  ⟨k.os.trans h.os, k.tape.trans h.tape, k.output.trans h.output, Nat.le_trans h.size k.size, fun i hi hf => (k.block i (Nat.lt_of_lt_of_le hi h.size) fun hg => by
    rcases hG i hg with h' | h'
    · exact hf h'
    · omega).trans (h.block i hi hf)⟩
theorem Save.setCell {F : Nat → Prop} {a w : World} (h : Save F a w) {p : Addr} (hp : F p.block) (u : Value) : Save F a (w.setCell p u) :=
  h.trans ⟨rfl, rfl, rfl, by simp, fun k _ hk => Below.heap_setCell _ _ _ _ fun e => hk (by rw [e]; exact hp)⟩
/-- A store into a new block. -/
theorem Save.setNew {F : Nat → Prop} {a w : World} (h : Save F a w) {p : Addr} (hp : a.heap.size ≤ p.block) (u : Value) : Save F a (w.setCell p u) :=
  ⟨h.os, h.tape, h.output, by simpa using h.size, fun k hk hf => (Below.heap_setCell _ _ _ _ (by omega)).trans (h.block k hk hf)⟩
theorem Save.then {F : Nat → Prop} {w a b : World} (h : Save F w a) (hb : Below a.heap.size a b) : Save F w b :=
  h.trans ⟨hb.os, hb.tape, hb.output, hb.size, fun k hk _ => hb.block k hk⟩
theorem Save.alloc {F : Nat → Prop} {w a : World} (h : Save F w a) (o : Obj) : Save F w (a.alloc o) := h.then ((Below.refl _ _).alloc (Nat.le_refl _) _)
theorem blk_cell {w : World} {b : Nat} {cs : Array Value} {T : TypeId} (h : w.heap[b]? = some (.cells cs T (0, 0))) (i : Nat) : w.cell? ⟨b, i, none⟩ = cs[i]? := by
  simp [World.cell?, h]
theorem blk_frozen {w : World} {b : Nat} {cs : Array Value} {T : TypeId} (h : w.heap[b]? = some (.cells cs T (0, 0))) (i : Nat) : w.frozen? ⟨b, i, none⟩ = false := by
  simp [World.frozen?, h]
theorem blk_set {w : World} {b : Nat} {cs : Array Value} {T : TypeId} (h : w.heap[b]? = some (.cells cs T (0, 0))) (i : Nat) (v : Value) : (w.setCell ⟨b, i, none⟩ v).heap[b]? = some (.cells (cs.setIfInBounds i v) T (0, 0)) := by
  simp [World.setCell, Array.getElem?_modify, h]
theorem blk_lt {w : World} {b : Nat} {o : Obj} (h : w.heap[b]? = some o) : b < w.heap.size := (Array.getElem?_eq_some_iff.1 h).1
theorem own_off {w : World} {base n b : Nat} {e T : TypeId} {v : Value} {xs : List Value} {cs : Array Value} (h : w.ownsRow base e 1 v n xs) (hb : w.heap[b]? = some (.cells cs T (0, 0))) (hne : e ≠ T) : v.ownBlock ≠ some b := by
  rcases h.2 with ⟨rfl, _⟩ | ⟨g, cap, cur, rfl, _, hh, _⟩
  · simp [Value.ownBlock]
  · intro e'
    obtain rfl : g = b := by simpa [Value.ownBlock] using e'
    rw [hb] at hh
    injection hh with hh
    injection hh with _ ht
    exact hne ht.symm
theorem own_setoff {w : World} {base n b i : Nat} {e : TypeId} {v u : Value} {xs : List Value} (h : w.ownsRow base e 1 v n xs) (hb : v.ownBlock ≠ some b) : (w.setCell ⟨b, i, none⟩ u).ownsRow base e 1 v n xs := by
  refine ⟨h.1, ?_⟩
  rcases h.2 with h2 | ⟨g, cap, cur, rfl, hg, hh, hr⟩
  · exact .inl h2
  · refine .inr ⟨g, cap, cur, rfl, hg, ?_, hr⟩
    rw [Below.heap_setCell _ _ _ _ (fun e => hb (by rw [e]; rfl))]
    exact hh
/-- An own row in a world in which its block is as it was. -/
theorem own_as {w w' : World} {base n : Nat} {e : TypeId} {v : Value} {xs : List Value} (h : w.ownsRow base e 1 v n xs) (hb : ∀ k, v.ownBlock = some k → w'.heap[k]? = w.heap[k]?) : w'.ownsRow base e 1 v n xs := by
  refine ⟨h.1, ?_⟩
  rcases h.2 with h2 | ⟨g, cap, cur, rfl, hg, hh, hr⟩
  · exact .inl h2
  · exact .inr ⟨g, cap, cur, rfl, hg, (hb g rfl).trans hh, hr⟩
/-- At block b there is a struct of type T with the cells cs; the slice v is its own and holds xs (elements of type e). -/
structure Obj1 (T e : TypeId) (w : World) (b : Nat) (cs : Array Value) (v : Value) (xs : List Value) : Prop where
  blk : w.heap[b]? = some (.cells cs T (0, 0))
  own : w.ownsRow 0 e 1 v xs.length xs
/-- Its blocks. -/
def FT (b : Nat) (v : Value) (k : Nat) : Prop := k = b ∨ v.ownBlock = some k
theorem Obj1.lt {T e : TypeId} {w : World} {b : Nat} {cs : Array Value} {v : Value} {xs : List Value} (h : Obj1 T e w b cs v xs) : ∀ k, FT b v k → k < w.heap.size := fun k hk => by
  rcases hk with rfl | hk
  · exact blk_lt h.blk
  · exact (h.own.lt k hk).2
theorem Obj1.as {T e : TypeId} {w w' : World} {b : Nat} {cs : Array Value} {v : Value} {xs : List Value} (h : Obj1 T e w b cs v xs) (hb : ∀ k, FT b v k → w'.heap[k]? = w.heap[k]?) : Obj1 T e w' b cs v xs :=
  ⟨(hb b (.inl rfl)).trans h.blk, own_as h.own fun k hk => hb k (.inr hk)⟩
theorem Obj1.save {T e : TypeId} {w w' : World} {b : Nat} {cs : Array Value} {v : Value} {xs : List Value} {F : Nat → Prop} (h : Obj1 T e w b cs v xs) (hs : Save F w w') (hF : ∀ k, FT b v k → ¬ F k) : Obj1 T e w' b cs v xs :=
  h.as fun k hk => hs.block k (h.lt k hk) (hF k hk)
theorem Obj1.keep {T e : TypeId} {w w' : World} {b : Nat} {cs : Array Value} {v : Value} {xs : List Value} (h : Obj1 T e w b cs v xs) (hb : Below w.heap.size w w') : Obj1 T e w' b cs v xs :=
  h.as fun k hk => hb.block k (h.lt k hk)
theorem Obj1.drewN {T e : TypeId} {w : World} {b : Nat} {cs : Array Value} {v : Value} {xs : List Value} (h : Obj1 T e w b cs v xs) (n : Nat) : Obj1 T e (w.drewN n) b cs v xs := h.as fun _ _ => rfl
/-- A field is stored. -/
theorem Obj1.field {T e : TypeId} {w : World} {b : Nat} {cs : Array Value} {v : Value} {xs : List Value} (h : Obj1 T e w b cs v xs) (hne : e ≠ T) (i : Nat) (u : Value) : Obj1 T e (w.setCell ⟨b, i, none⟩ u) b (cs.setIfInBounds i u) v xs :=
  ⟨blk_set h.blk i u, own_setoff h.own (own_off h.own h.blk hne)⟩
theorem Obj1.shape {T e : TypeId} {w : World} {b : Nat} {cs : Array Value} {v : Value} {xs : List Value} (h : Obj1 T e w b cs v xs) (hx : 0 < xs.length) : ∃ g c, v = .slice (some ⟨g, 0, none⟩) xs.length c ∧ xs.length ≤ c ∧ c ≤ maxLen ∧ g ≠ b ∨ e = T := by
  by_cases hne : e = T
  · exact ⟨0, 0, .inr hne⟩
  · have ho := own_off h.own h.blk hne
    rcases h.own.2 with ⟨_, h0⟩ | ⟨g, cap, cur, rfl, hg, hh, hr, hm, _⟩
    · omega
    · exact ⟨g, cap, .inl ⟨rfl, hr, hm, fun e => ho (by rw [e]; rfl)⟩⟩
/-- An element is stored. -/
theorem Obj1.elem {T e : TypeId} {w : World} {b g c : Nat} {cs : Array Value} {xs : List Value} (h : Obj1 T e w b cs (.slice (some ⟨g, 0, none⟩) xs.length c) xs) (hne : g ≠ b) (k : Nat) (u : Value) : Obj1 T e (w.setCell ⟨g, k, none⟩ u) b cs (.slice (some ⟨g, 0, none⟩) xs.length c) (xs.set k u) := by
  refine ⟨?_, ?_⟩
  · rw [Below.heap_setCell _ _ _ _ (fun e => hne e.symm)]; exact h.blk
  · have := (h.own.stored k u).1
    rw [List.length_set]
    exact this
/-- A block whose cells are f 0, .., f (n - 1). -/
def BlkF (w : World) (b : Nat) (T : TypeId) (n : Nat) (f : Nat → Value) : Prop := w.heap[b]? = some (.cells ((List.range n).map f).toArray T (0, 0))
/-- f with another value at i. -/
def upd {α : Type} (f : Nat → α) (i : Nat) (x : α) (j : Nat) : α := if j = i then x else f j
theorem upd_same {α : Type} (f : Nat → α) (i : Nat) (x : α) : upd f i x i = x := if_pos rfl
theorem upd_other {α : Type} (f : Nat → α) {i j : Nat} (x : α) (h : j ≠ i) : upd f i x j = f j := if_neg h
theorem BlkF.cell {w : World} {b n : Nat} {T : TypeId} {f : Nat → Value} (h : BlkF w b T n f) {i : Nat} (hi : i < n) : w.cell? ⟨b, i, none⟩ = some (f i) := by
  rw [blk_cell h i]
  simp [hi]
theorem BlkF.soft {w : World} {b n : Nat} {T : TypeId} {f : Nat → Value} (h : BlkF w b T n f) (i : Nat) : w.frozen? ⟨b, i, none⟩ = false := blk_frozen h i
theorem BlkF.lt {w : World} {b n : Nat} {T : TypeId} {f : Nat → Value} (h : BlkF w b T n f) : b < w.heap.size := blk_lt h
theorem BlkF.set {w : World} {b n : Nat} {T : TypeId} {f : Nat → Value} (h : BlkF w b T n f) (i : Nat) (v : Value) : BlkF (w.setCell ⟨b, i, none⟩ v) b T n (upd f i v) := by
  unfold BlkF
  rw [blk_set h i v]
  congr 2
  apply Array.ext'
  simp only [Array.toList_setIfInBounds]
  apply List.ext_getElem?
  intro j
  rw [List.getElem?_set]
  by_cases hj : j < n
  · by_cases e : i = j
    · subst e; simp [hj, upd]
    · rw [if_neg e]
      simp [hj, upd, show ¬ j = i from fun h => e h.symm]
  · by_cases e : i = j
    · subst e; simp [hj]
    · rw [if_neg e]; simp [hj]
theorem BlkF.as {w w' : World} {b n : Nat} {T : TypeId} {f : Nat → Value} (h : BlkF w b T n f) (e : w'.heap[b]? = w.heap[b]?) : BlkF w' b T n f := e.trans h
theorem BlkF.keep {w w' : World} {b n : Nat} {T : TypeId} {f : Nat → Value} (h : BlkF w b T n f) (hb : Below w.heap.size w w') : BlkF w' b T n f := h.as (hb.block b h.lt)
theorem BlkF.save {w w' : World} {b n : Nat} {T : TypeId} {f : Nat → Value} {F : Nat → Prop} (h : BlkF w b T n f) (hs : Save F w w') (hf : ¬ F b) : BlkF w' b T n f := h.as (hs.block b h.lt hf)
theorem BlkF.other {w : World} {b n c i : Nat} {T : TypeId} {f : Nat → Value} {v : Value} (h : BlkF w b T n f) (hc : b ≠ c) : BlkF (w.setCell ⟨c, i, none⟩ v) b T n f := h.as (Below.heap_setCell _ _ _ _ hc)
theorem BlkF.congr {w : World} {b n : Nat} {T : TypeId} {f g : Nat → Value} (h : BlkF w b T n f) (e : ∀ i, i < n → f i = g i) : BlkF w b T n g := by
  unfold BlkF at *
  rw [h]
  congr 2
  congr 1
  exact List.map_congr_left fun i hi => e i (List.mem_range.1 hi)
end H
end Go.Proofs.YtnoohhpajoaaoaaDoor
