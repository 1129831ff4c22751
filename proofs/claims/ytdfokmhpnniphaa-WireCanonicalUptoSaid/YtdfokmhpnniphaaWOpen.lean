/-
  How the arguments of package wire's laws are opened: slices of integers, slices of items; their bulk.
-/
import Derived.Test.YtdfokmhpnniphaaWItm
import Derived.Test.YtdfokmhpnniphaaRows
import Derived.ProofKit
import Derived.OpenShut
import Derived.ShutString
import Derived.ChangeOld
import Derived.SizedLaws
import Derived.Deep.CondSized
import Derived.Deep.Slices
import Derived.Deep.Fields
namespace Go.Proofs.Ytdfokmhpnniphaa
open Go.ChangeShapes Go.WideShapes Go.ChangeAt Go.RowKit Go.Deep
namespace W
open H
set_option linter.unusedVariables false

theorem own : ownKnob Try.prog.godebug = none := by kernel_rfl
theorem laidOut : laidOutB Try.prog = true := by kernel_rfl

theorem bulk_lits {HH : Type} (k : IntKind) : ∀ zs : List Int, Rows.uptoBulkAll (lits (H := HH) k zs) = zs.length
  | [] => rfl
  | z :: zs => by
    have ih := bulk_lits (HH := HH) k zs
    simp only [lits, List.map_cons] at ih ⊢
    rw [Rows.uptoBulkAll, ih, Rows.uptoBulk, List.length_cons]
    · omega
    all_goals (intros; simp_all)

/-- A slice of integers that came in. -/
theorem open_is {HH : Type} {enc : TypeId × Value → HH} {W : World} {t e : TypeId} {k : IntKind} {fuel : Nat} {cs : List Value} {x : DataW HH × List MemPlace}
    (ht : Try.prog.underlying t = some (.slice e)) (he : Try.prog.underlying e = some (.int k)) (hc : Try.prog.cellsOf e = 1) (h : DataW.trod enc Try.prog W 0 (fun _ => true) true fuel t cs = some x) :
    ∃ (A : Option Addr) (len cap : Nat) (zs : List Int), cs = [.slice A len cap] ∧ zs.length = len ∧ len ≤ cap ∧ cap ≤ maxLen ∧ (A = none → cap = 0) ∧ RdI W W.heap.size k A zs ∧ (∀ n ∈ zs, (Lit.int k n).wf = true) ∧ zs.length + 1 ≤ Rows.uptoBulk x.1 := by
  rcases open_ints ht he hc h with ⟨rfl, rfl⟩ | ⟨a, l, c, zs, rfl, _, hl, hm, hz, hx, hcell, hwz⟩
  · exact ⟨none, 0, 0, [], rfl, rfl, Nat.le_refl _, Nat.zero_le _, fun _ => rfl, RdI.nil, by simp, by simp [Rows.uptoBulk]⟩
  · have hz' : zs.length = c := by simpa using hz
    refine ⟨some a, l, c, zs.take l, rfl, by simp; omega, hl, hm, (by intro h; cases h), fun j hj => ?_, fun n hn => hwz n (List.mem_of_mem_take hn), ?_⟩
    · have hj' : j < l := by simp at hj; omega
      have hcj := hcell j (by omega)
      refine ⟨a, rfl, by have := cell_lt hcj; rwa [add_block] at this, ?_⟩
      rw [hcj]
      simp [hj', List.getD]
    · rw [hx, Rows.uptoBulk, bulk_lits, bulk_lits]
      omega

theorem oneI : Try.prog.cellsOf 3 = 1 := by kernel_rfl
theorem oneU : Try.prog.cellsOf 30 = 1 := by kernel_rfl
theorem oneB : Try.prog.cellsOf 24 = 1 := by kernel_rfl
theorem oneL : Try.prog.cellsOf 44 = 1 := by kernel_rfl
theorem sixT : Try.prog.cellsOf 53 = 6 := by kernel_rfl
/-- The least bulk of an item. -/
def Itm.w (x : Itm) : Nat := 7 + x.bs.length + x.ls.length

set_option maxRecDepth 100000 in
theorem open_item {HH : Type} {enc : TypeId × Value → HH} {W : World} {fuel : Nat} {cs : List Value} {d : DataW HH} {p : List MemPlace} {ad : Addr}
    (hcs : W.cells? 0 ad 6 = some cs) (h : DataW.trod enc Try.prog W 0 (fun _ => true) true fuel 53 cs = some (d, p)) :
    ∃ x : Itm, x.Ok ∧ RdItm W W.heap.size ad x ∧ x.w ≤ Rows.uptoBulk d := by
  obtain ⟨xs, n, _, hx, _, hlen, hf⟩ := DataW.trod_struct Try.underlying53 h
  obtain ⟨_, hl, hat⟩ := World.cells?_some hcs
  match cs, hl with
  | [v0, v1, v2, v3, v4, v5], _ =>
    match xs, hlen with
    | [y0, y1, y2, y3, y4, y5], _ =>
      have f0 : DataW.trod enc Try.prog W 0 (fun _ => true) true n 3 [v0] = some y0 := by
        have h : DataW.trod enc Try.prog W 0 (fun _ => true) true n 3 (([v0, v1, v2, v3, v4, v5].drop 0).take (Try.prog.cellsOf 3)) = some y0 := hf 0 _ rfl
        rw [oneI] at h
        exact h
      have f1 : DataW.trod enc Try.prog W 0 (fun _ => true) true n 30 [v1] = some y1 := by
        have h : DataW.trod enc Try.prog W 0 (fun _ => true) true n 30 (([v0, v1, v2, v3, v4, v5].drop 1).take (Try.prog.cellsOf 30)) = some y1 := hf 1 _ rfl
        rw [oneU] at h
        exact h
      have f2 : DataW.trod enc Try.prog W 0 (fun _ => true) true n 3 [v2] = some y2 := by
        have h : DataW.trod enc Try.prog W 0 (fun _ => true) true n 3 (([v0, v1, v2, v3, v4, v5].drop 2).take (Try.prog.cellsOf 3)) = some y2 := hf 2 _ rfl
        rw [oneI] at h
        exact h
      have f3 : DataW.trod enc Try.prog W 0 (fun _ => true) true n 24 [v3] = some y3 := by
        have h : DataW.trod enc Try.prog W 0 (fun _ => true) true n 24 (([v0, v1, v2, v3, v4, v5].drop 3).take (Try.prog.cellsOf 24)) = some y3 := hf 3 _ rfl
        rw [oneB] at h
        exact h
      have f4 : DataW.trod enc Try.prog W 0 (fun _ => true) true n 44 [v4] = some y4 := by
        have h : DataW.trod enc Try.prog W 0 (fun _ => true) true n 44 (([v0, v1, v2, v3, v4, v5].drop 4).take (Try.prog.cellsOf 44)) = some y4 := hf 4 _ rfl
        rw [oneL] at h
        exact h
      have f5 : DataW.trod enc Try.prog W 0 (fun _ => true) true n 3 [v5] = some y5 := by
        have h : DataW.trod enc Try.prog W 0 (fun _ => true) true n 3 (([v0, v1, v2, v3, v4, v5].drop 5).take (Try.prog.cellsOf 3)) = some y5 := hf 5 _ rfl
        rw [oneI] at h
        exact h
      obtain ⟨k, e0, rfl, w0⟩ := DataW.trod_int Try.underlying3 f0
      obtain ⟨u, e1, rfl, w1⟩ := DataW.trod_int Try.underlying30 f1
      obtain ⟨i, e2, rfl, w2⟩ := DataW.trod_int Try.underlying3 f2
      obtain ⟨bA, bn, bc, bs, e3, bl, bc1, bm, bz, rb, bb, w3⟩ := open_is Try.underlying24 Try.underlying5 (by kernel_rfl) f3
      obtain ⟨lA, ln, lc, ls, e4, ll, lc1, lm, lz, rl, lb, w4⟩ := open_is Try.underlying44 Try.underlying3 (by kernel_rfl) f4
      obtain ⟨m, e5, rfl, w5⟩ := DataW.trod_int Try.underlying3 f5
      simp only [List.cons.injEq, and_true] at e0 e1 e2 e3 e4 e5
      subst e0 e1 e2 e3 e4 e5
      have u0 := u64_range w1
      have c0 := hat 0 (by decide)
      have c1 := hat 1 (by decide)
      have c2 := hat 2 (by decide)
      have c3 := hat 3 (by decide)
      have c4 := hat 4 (by decide)
      have c5 := hat 5 (by decide)
      have a0 : ad.add 0 = ad := by simp [Addr.add]
      rw [a0] at c0
      have hu : ((u.toNat : Nat) : Int) = u := Int.toNat_of_nonneg u0.1
      refine ⟨⟨k, u.toNat, i, bA, bn, bc, bs, lA, ln, lc, ls, m⟩, ⟨i64_range w0, by show u.toNat < _; omega, i64_range w2, i64_range w5, bl, bc1, bm, bz, u8_byt bb, ll, lc1, lm, lz, fun z hz => i64_range (lb z hz)⟩, ⟨c0, ?_, c2, c3, c4, c5, rb, rl⟩, ?_⟩
      · rw [c1, hu]
        rfl
      · injection hx with hd _
        rw [hd]
        simp only [List.map_cons, List.map_nil, Rows.uptoBulk, Rows.uptoBulkAll, Itm.w] at w3 w4 ⊢
        omega

theorem gather {α : Type} {P : Nat → α → Prop} : ∀ n, (∀ i, i < n → ∃ x, P i x) → ∃ xs : List α, xs.length = n ∧ ∀ i x, xs[i]? = some x → P i x
  | 0, _ => ⟨[], rfl, by simp⟩
  | n + 1, h => by
    obtain ⟨xs, hl, hx⟩ := gather n fun i hi => h i (by omega)
    obtain ⟨x, hp⟩ := h n (by omega)
    refine ⟨xs ++ [x], by simp [hl], fun i y hy => ?_⟩
    rcases Nat.lt_or_ge i n with hi | hi
    · rw [List.getElem?_append_left (by omega)] at hy
      exact hx i y hy
    · rw [List.getElem?_append_right (by omega)] at hy
      have hlt := (List.getElem?_eq_some_iff.1 hy).1
      simp only [List.length_cons, List.length_nil] at hlt
      obtain rfl : i = n := by omega
      rw [hl, Nat.sub_self] at hy
      simp only [List.getElem?_cons_zero, Option.some.injEq] at hy
      rw [← hy]
      exact hp
theorem bulk_le {HH : Type} : ∀ (xs : List Itm) (D : Nat → DataW HH), (∀ i x, xs[i]? = some x → x.w ≤ Rows.uptoBulk (D i)) → (xs.map Itm.w).sum ≤ Rows.uptoBulkAll ((List.range xs.length).map D)
  | [], _, _ => by simp
  | x :: xs, D, h => by
    have h0 := h 0 x rfl
    have ih := bulk_le xs (fun i => D (i + 1)) fun i y hy => h (i + 1) y (by simpa using hy)
    rw [List.length_cons, List.range_succ_eq_map, List.map_cons, List.map_cons, List.map_map, List.sum_cons, Rows.uptoBulkAll]
    have e : (List.range xs.length).map (D ∘ Nat.succ) = (List.range xs.length).map (fun i => D (i + 1)) := rfl
    rw [e]
    omega

/-- A slice of items that came in. -/
theorem open_its {HH : Type} {enc : TypeId × Value → HH} {W : World} {a : Option Addr} {len cap : Nat} {d : DataW HH} {p : List MemPlace}
    (h : DataW.Trod enc Try.prog W 0 (fun _ => true) true 22 (.slice a len cap) d p) :
    ∃ xs : List Itm, xs.length = len ∧ len ≤ cap ∧ cap ≤ maxLen ∧ (a = none → cap = 0) ∧ RdIt W W.heap.size a xs ∧ (∀ x ∈ xs, x.Ok) ∧ (xs.map Itm.w).sum ≤ Rows.uptoBulk d := by
  obtain ⟨fuel, hf⟩ := h
  rcases open_slice Try.underlying22 hf with ⟨hcs, hx⟩ | ⟨a', l, c, m, n, D, Pl, hcs, hb, hl, hm, hmm, hx, hi⟩
  · simp [Value.cells] at hcs
    obtain ⟨rfl, rfl, rfl⟩ := hcs
    exact ⟨[], rfl, Nat.le_refl _, Nat.zero_le _, fun _ => rfl, fun j x hx => by simp at hx, by simp, by simp⟩
  · simp [Value.cells] at hcs
    obtain ⟨rfl, rfl, rfl⟩ := hcs
    have hmc : m = cap := by simpa using hmm
    subst hmc
    obtain ⟨xs, hxl, hxs⟩ := gather (P := fun i x => x.Ok ∧ RdItm W W.heap.size (a'.add (i * 6)) x ∧ x.w ≤ Rows.uptoBulk (D i)) len fun i hil => by
      obtain ⟨cs', hc, ht⟩ := hi i (by omega)
      rw [sixT] at hc
      exact open_item hc ht
    refine ⟨xs, hxl, hl, hm, (by intro h; cases h), fun j x hx => ?_, fun x hx => ?_, ?_⟩
    · have h1 := (hxs j x hx).2.1
      have h2 := cell_lt h1.c0
      rw [add_block] at h2
      exact ⟨a', rfl, h2, h1⟩
    · obtain ⟨j, hj⟩ := List.mem_iff_getElem?.1 hx
      exact (hxs j x hj).1
    · have h1 := bulk_le xs D fun i x hx => (hxs i x hx).2.2
      injection hx with hd _
      rw [hd, Rows.uptoBulk, ← hxl]
      omega

theorem open_isT {HH : Type} {enc : TypeId × Value → HH} {W : World} {t e : TypeId} {k : IntKind} {a : Option Addr} {len cap : Nat} {d : DataW HH} {p : List MemPlace}
    (ht : Try.prog.underlying t = some (.slice e)) (he : Try.prog.underlying e = some (.int k)) (hc : Try.prog.cellsOf e = 1) (h : DataW.Trod enc Try.prog W 0 (fun _ => true) true t (.slice a len cap) d p) :
    ∃ zs : List Int, zs.length = len ∧ len ≤ cap ∧ cap ≤ maxLen ∧ (a = none → cap = 0) ∧ RdI W W.heap.size k a zs ∧ (∀ n ∈ zs, (Lit.int k n).wf = true) ∧ zs.length + 1 ≤ Rows.uptoBulk d := by
  obtain ⟨fuel, hf⟩ := h
  obtain ⟨A, l, c, zs, hcs, h1, h2, h3, h4, h5, h6, h7⟩ := open_is ht he hc hf
  simp [Value.cells] at hcs
  obtain ⟨rfl, rfl, rfl⟩ := hcs
  exact ⟨zs, h1, h2, h3, h4, h5, h6, h7⟩

theorem open_el {HH : Type} {enc : TypeId × Value → HH} {W : World} {t e : TypeId} {k : IntKind} {a : Option Addr} {len cap : Nat} {d : DataW HH} {p : List MemPlace}
    (ht : Try.prog.underlying t = some (.slice e)) (he : Try.prog.underlying e = some (.int k)) (hc : Try.prog.cellsOf e = 1) (h : DataW.Trod enc Try.prog W 0 (fun _ => true) true t (.slice a len cap) d p) :
    len = 0 ∨ ∃ elems spare, d = .slice elems spare ∧ len ≤ elems.length + spare.length := by
  obtain ⟨fuel, hf⟩ := h
  rcases open_ints ht he hc hf with ⟨hcs, _⟩ | ⟨x, l, c, zs, hcs, _, hl, hm, hz, hx, hcell, hwz⟩
  · simp [Value.cells] at hcs
    exact .inl hcs.2.1
  · simp [Value.cells] at hcs
    obtain ⟨rfl, rfl, rfl⟩ := hcs
    have hz' : zs.length = cap := by simpa using hz
    exact .inr ⟨_, _, (Prod.mk.inj hx).1, by simp [lits]; omega⟩
theorem bytesInt : Try.prog.bytesOf 3 = 8 := by kernel_rfl
theorem bytesU8 : Try.prog.bytesOf 5 = 1 := by kernel_rfl

theorem enc_w {x : Itm} (h : x.Ok) (hb : x.bs.length ≤ 1048576) (hl : x.ls.length ≤ 1048576) : (enc x.val).length ≤ 10 * x.w := by
  have ten : ∀ n : Nat, n < 18446744073709551616 → (encU n).length ≤ 10 := fun n hn => encU_len 9 (by have h9 : (18446744073709551616 : Nat) < 128 ^ (9 + 1) := (by decide); omega)
  unfold Itm.val Itm.w
  split
  · have := ten x.u h.u
    simp only [enc]
    omega
  · split
    · have := ten (zig x.i) (zig_lt h.i)
      simp only [enc]
      omega
    · split
      · have := ten x.bs.length (by omega)
        simp only [enc, List.length_append]
        omega
      · have h1 := ten x.ls.length (by omega)
        have h2 := encL_len x.ls h.lb
        simp only [enc, List.length_append]
        omega
theorem w_le : ∀ {xs : List Itm} {x : Itm}, x ∈ xs → x.w ≤ (xs.map Itm.w).sum
  | y :: ys, x, h => by
    rw [List.map_cons, List.sum_cons]
    rcases List.mem_cons.1 h with rfl | h
    · omega
    · have := w_le h
      omega
theorem encAll_w : ∀ {xs : List Itm}, (∀ x ∈ xs, x.Ok ∧ x.bs.length ≤ 1048576 ∧ x.ls.length ≤ 1048576) → (encAll (xs.map Itm.val)).length ≤ 10 * (xs.map Itm.w).sum
  | [], _ => by simp [encAll]
  | x :: xs, h => by
    have h0 := h x (by simp)
    have h1 := enc_w h0.1 h0.2.1 h0.2.2
    have h2 := encAll_w (xs := xs) fun y hy => h y (by simp [hy])
    simp only [encAll, List.map_cons, List.flatMap_cons, List.length_append, List.sum_cons] at h2 ⊢
    omega
theorem sum_len : ∀ (xs : List Itm), 7 * xs.length ≤ (xs.map Itm.w).sum
  | [] => by simp
  | x :: xs => by
    have := sum_len xs
    simp only [List.length_cons, List.map_cons, List.sum_cons]
    have e : x.w = 7 + x.bs.length + x.ls.length := rfl
    omega
/-- What a bulk within the bound gives of items. -/
theorem its_small {xs : List Itm} (hok : ∀ x ∈ xs, x.Ok) (h : (xs.map Itm.w).sum ≤ 1048576) : (∀ x ∈ xs, x.Ok ∧ x.bs.length ≤ 1048576 ∧ x.ls.length ≤ 1048576) ∧ (encAll (xs.map Itm.val)).length ≤ 10485760 ∧ xs.length ≤ 149796 := by
  have h1 : ∀ x ∈ xs, x.Ok ∧ x.bs.length ≤ 1048576 ∧ x.ls.length ≤ 1048576 := fun x hx => by
    have h2 := w_le hx
    have e : x.w = 7 + x.bs.length + x.ls.length := rfl
    exact ⟨hok x hx, by omega, by omega⟩
  have h3 := encAll_w h1
  have h4 := sum_len xs
  exact ⟨h1, by omega, by omega⟩

end W
end Go.Proofs.Ytdfokmhpnniphaa
