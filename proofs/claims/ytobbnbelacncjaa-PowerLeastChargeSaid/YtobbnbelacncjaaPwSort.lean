/-
  slices.SortFunc at loads by the landed comparison.
-/
import Derived.Test.YtobbnbelacncjaaPwCmp
import Derived.Test.YtobbnbelacncjaaShelf
import Derived.Shelf.SlSortCmp.NoneTotal
namespace Go.Proofs.Ytobbnbelacncjaa
open Go.RowKit
namespace Pw
open H
set_option linter.unusedVariables false
set_option linter.unusedSimpArgs false
set_option maxRecDepth 100000
instance : Inhabited Ld := ⟨⟨0, 0, 0, false⟩⟩
theorem ltL (x y : Ld) : ltOf cmpL x y = bef x y := by
  unfold ltOf
  rw [Bool.eq_iff_iff, decide_eq_true_eq]
  exact cmpL_bef x y
theorem bef_nt {a b c : Ld} (h : bef a b = false) (k : bef b c = false) : bef a c = false := by
  obtain ⟨ai, ap, ar, ae⟩ := a
  obtain ⟨bi, bp, br, be⟩ := b
  obtain ⟨ci, cp, cr, ce⟩ := c
  unfold bef at *
  cases ae <;> cases be <;> cases ce <;> simp_all
  all_goals
    repeat' split at h
    all_goals repeat' split at k
    all_goals repeat' split
    all_goals (try simp_all)
    all_goals (try omega)
theorem swoL : Sort.SWO (ltOf cmpL) where
  irrefl x := by rw [ltL]; exact bef_irr x
  trans x y z h k := by rw [ltL] at *; exact bef_tr h k
  ntrans x y z h k := by rw [ltL] at *; exact bef_nt h k
theorem srt_of {T : List Ld} {d : Array Ld} (hp : Sort.PermIn 0 T.toArray.size T.toArray d) (hs : Sort.SortedIn (ltOf cmpL) 0 T.toArray.size d) (hd : Dif T) : d.toList = ord T := by
  obtain ⟨h1, _, h3⟩ := hp
  have e1 : d.extract 0 T.toArray.size = d := by rw [← h1]; simp
  have e2 : T.toArray.extract 0 T.toArray.size = T.toArray := by simp
  rw [e1, e2] at h3
  have hp : d.toList.Perm T := h3
  have hd2 : Dif d.toList := by
    unfold Dif at *
    exact (hp.pairwise_iff (fun {a b} h => Ne.symm h)).2 hd
  refine ord_one hd ?_ (fun z => hp.mem_iff)
  unfold Srt
  rw [List.pairwise_iff_getElem]
  intro i j hi hj hij
  have hji : j < T.toArray.size := by rw [← h1]; simpa using hj
  have hlt := hs i j (Nat.zero_le _) hij hji
  rw [ltL] at hlt
  have g1 : d[j]! = d.toList[j] := by simp [getElem!_pos, show j < d.size by omega]
  have g2 : d[i]! = d.toList[i] := by simp [getElem!_pos, show i < d.size by omega]
  rw [g1, g2] at hlt
  unfold Dif at hd2
  exact bef_to (Ne.symm ((List.pairwise_iff_getElem.1 hd2) i j hi hj hij)) hlt
theorem heap_sortK {w : World} {blk m b : Nat} {d : Array Ld} {os : Array Obj} (hb : b < w.heap.size) (hne : b ≠ blk) : (sortWorldK cells4 4 w blk 0 m d os).heap[b]? = w.heap[b]? := by
  unfold sortWorldK Sort.grow Sort.putRowK Sort.putRow Sort.mapBlock Sort.ahead
  simp only
  rw [Array.getElem?_append_left (by simpa using hb), Array.getElem?_modify, if_neg (Ne.symm hne)]
theorem cmp_lays {lo : Nat} {w0 w : World} {g : Nat} {cb : Array Value} (h : ∀ V, w0.heap.size ≤ V.heap.size → (∀ b, lo ≤ b → b < w0.heap.size → V.heap[b]? = w0.heap[b]?) → ∀ x y : Ld, Calls Try.prog g (#[x.v, y.v] ++ cb) V fun e V' => e = .returned (.int .i64 (cmpL x y)) ∧ Bg V V')
    (hB : Below w0.heap.size w0 w) {blk : Nat} (hblk : w0.heap.size ≤ blk) (size : Nat) : CmpLays Try.prog g cb cells4 4 cmpL blk 0 size w := by
  intro m os dk hs x y
  have hsz := size_sortWorldK_c cells4 4 w blk 0 m dk os
  refine (h _ (Nat.le_trans hB.size hsz) (fun b _ hb => ?_) x y).mono fun e V' ⟨h1, h2⟩ => ⟨h1, h2.grow⟩
  exact (heap_sortK (Nat.lt_of_lt_of_le hb hB.size) (by omega)).trans (hB.block b hb)
set_option maxHeartbeats 2000000 in
theorem psortf_any (T : List Ld) (cap blk lo : Nat) (v : Value) (w0 w : World) (hC : CmpAt lo w0 v cmpL) (hB : Below w0.heap.size w0 w) (hblk : w0.heap.size ≤ blk) (hlt : blk < w.heap.size) (hH : Sort.HoldsK cells4 4 w blk 0 T.toArray) (hd : Dif T) (hn : T.length < 4611686018427387904) :
    Calls Try.prog 52 #[.slice (some ⟨blk, 0, none⟩) T.length cap, v] w fun e w' => e = .returned (.tuple #[]) ∧ Sort.HoldsK cells4 4 w' blk 0 (ord T).toArray ∧ Below w0.heap.size w0 w' ∧ blk < w'.heap.size := by
  obtain ⟨g, cb, rfl, eg, hc⟩ := hC
  have hcon := AnyQ.slices_SortFunc Try.sortL 4 Try.isAgg41 Try.sizeOf41 cells4 (fun _ => rfl) cells4_one cmpL swoL g cb blk 0 cap T.toArray w eg (cmp_lays hc hB hblk _) hH hlt (by simpa using hn)
  refine hcon.mono fun e w' ⟨he, d', n, os, hp, hs, hw⟩ => ?_
  have hd' := srt_of hp hs hd
  have h2 : d' = (ord T).toArray := by rw [← hd']
  have h3 := holdsK_sortWorldK_c cells4 4 w blk 0 T.toArray d' n os hH hlt hp.1
  have hsz := size_sortWorldK_c cells4 4 w blk 0 n d' os
  refine ⟨he, by rw [hw, ← h2]; exact h3, ?_, by rw [hw]; omega⟩
  rw [hw]
  exact hB.trans ⟨rfl, rfl, rfl, hsz, fun b hb => heap_sortK (by have := hB.size; omega) (by omega)⟩
end Pw
end Go.Proofs.Ytobbnbelacncjaa
