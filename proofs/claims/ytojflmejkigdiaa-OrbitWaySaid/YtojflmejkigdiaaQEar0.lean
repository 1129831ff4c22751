/-
  The landed earliest: arrays of 21 ticks.
-/
import Derived.Test.YtojflmejkigdiaaQHop
import Derived.Test.YtojflmejkigdiaaQMth
import Derived.Sort.LoopGhostIn
namespace Go.Proofs.Ytojflmejkigdiaa
open Go.RowKit Go.Shelf
attribute [local go_sem] Oper.semAt_some
namespace Q
open H
set_option linter.unusedVariables false
set_option linter.unusedSimpArgs false
set_option maxRecDepth 100000
theorem row21 {W : World} {b : Nat} {v0 v1 v2 v3 v4 v5 v6 v7 v8 v9 v10 v11 v12 v13 v14 v15 v16 v17 v18 v19 v20 : Value} {t : TypeId} (h : W.heap[b]? = some (Obj.cells #[v0, v1, v2, v3, v4, v5, v6, v7, v8, v9, v10, v11, v12, v13, v14, v15, v16, v17, v18, v19, v20] t (0, 0))) : (W.cell? ⟨b, 0, none⟩ = some v0 ∧ W.cell? ⟨b, 1, none⟩ = some v1 ∧ W.cell? ⟨b, 2, none⟩ = some v2 ∧ W.cell? ⟨b, 3, none⟩ = some v3 ∧ W.cell? ⟨b, 4, none⟩ = some v4 ∧ W.cell? ⟨b, 5, none⟩ = some v5 ∧ W.cell? ⟨b, 6, none⟩ = some v6 ∧ W.cell? ⟨b, 7, none⟩ = some v7 ∧ W.cell? ⟨b, 8, none⟩ = some v8 ∧ W.cell? ⟨b, 9, none⟩ = some v9 ∧ W.cell? ⟨b, 10, none⟩ = some v10 ∧ W.cell? ⟨b, 11, none⟩ = some v11 ∧ W.cell? ⟨b, 12, none⟩ = some v12 ∧ W.cell? ⟨b, 13, none⟩ = some v13 ∧ W.cell? ⟨b, 14, none⟩ = some v14 ∧ W.cell? ⟨b, 15, none⟩ = some v15 ∧ W.cell? ⟨b, 16, none⟩ = some v16 ∧ W.cell? ⟨b, 17, none⟩ = some v17 ∧ W.cell? ⟨b, 18, none⟩ = some v18 ∧ W.cell? ⟨b, 19, none⟩ = some v19 ∧ W.cell? ⟨b, 20, none⟩ = some v20) ∧ (W.frozen? ⟨b, 0, none⟩ = false ∧ W.frozen? ⟨b, 1, none⟩ = false ∧ W.frozen? ⟨b, 2, none⟩ = false ∧ W.frozen? ⟨b, 3, none⟩ = false ∧ W.frozen? ⟨b, 4, none⟩ = false ∧ W.frozen? ⟨b, 5, none⟩ = false ∧ W.frozen? ⟨b, 6, none⟩ = false ∧ W.frozen? ⟨b, 7, none⟩ = false ∧ W.frozen? ⟨b, 8, none⟩ = false ∧ W.frozen? ⟨b, 9, none⟩ = false ∧ W.frozen? ⟨b, 10, none⟩ = false ∧ W.frozen? ⟨b, 11, none⟩ = false ∧ W.frozen? ⟨b, 12, none⟩ = false ∧ W.frozen? ⟨b, 13, none⟩ = false ∧ W.frozen? ⟨b, 14, none⟩ = false ∧ W.frozen? ⟨b, 15, none⟩ = false ∧ W.frozen? ⟨b, 16, none⟩ = false ∧ W.frozen? ⟨b, 17, none⟩ = false ∧ W.frozen? ⟨b, 18, none⟩ = false ∧ W.frozen? ⟨b, 19, none⟩ = false ∧ W.frozen? ⟨b, 20, none⟩ = false) := by
  simp [World.cell?, World.frozen?, h]
theorem put21_same {W : World} {b : Nat} {u0 u1 u2 u3 u4 u5 u6 u7 u8 u9 u10 u11 u12 u13 u14 u15 u16 u17 u18 u19 u20 : Value} (v0 v1 v2 v3 v4 v5 v6 v7 v8 v9 v10 v11 v12 v13 v14 v15 v16 v17 v18 v19 v20 : Value) {t : TypeId} (h : W.heap[b]? = some (Obj.cells #[u0, u1, u2, u3, u4, u5, u6, u7, u8, u9, u10, u11, u12, u13, u14, u15, u16, u17, u18, u19, u20] t (0, 0))) : (((((((((((((((((((((W.setCell ⟨b, 0, none⟩ v0).setCell ⟨b, 1, none⟩ v1).setCell ⟨b, 2, none⟩ v2).setCell ⟨b, 3, none⟩ v3).setCell ⟨b, 4, none⟩ v4).setCell ⟨b, 5, none⟩ v5).setCell ⟨b, 6, none⟩ v6).setCell ⟨b, 7, none⟩ v7).setCell ⟨b, 8, none⟩ v8).setCell ⟨b, 9, none⟩ v9).setCell ⟨b, 10, none⟩ v10).setCell ⟨b, 11, none⟩ v11).setCell ⟨b, 12, none⟩ v12).setCell ⟨b, 13, none⟩ v13).setCell ⟨b, 14, none⟩ v14).setCell ⟨b, 15, none⟩ v15).setCell ⟨b, 16, none⟩ v16).setCell ⟨b, 17, none⟩ v17).setCell ⟨b, 18, none⟩ v18).setCell ⟨b, 19, none⟩ v19).setCell ⟨b, 20, none⟩ v20).heap[b]? = some (Obj.cells #[v0, v1, v2, v3, v4, v5, v6, v7, v8, v9, v10, v11, v12, v13, v14, v15, v16, v17, v18, v19, v20] t (0, 0)) := by
  have h6 := (hset (i := 20) v20 (hset (i := 19) v19 (hset (i := 18) v18 (hset (i := 17) v17 (hset (i := 16) v16 (hset (i := 15) v15 (hset (i := 14) v14 (hset (i := 13) v13 (hset (i := 12) v12 (hset (i := 11) v11 (hset (i := 10) v10 (hset (i := 9) v9 (hset (i := 8) v8 (hset (i := 7) v7 (hset (i := 6) v6 (hset (i := 5) v5 (hset (i := 4) v4 (hset (i := 3) v3 (hset (i := 2) v2 (hset (i := 1) v1 (hset (i := 0) v0 h)))))))))))))))))))))
  simp only [List.setIfInBounds_toArray, List.set_cons_zero, List.set_cons_succ] at h6
  exact h6
theorem put21_oth {W : World} {b b' : Nat} {o : Obj} (v0 v1 v2 v3 v4 v5 v6 v7 v8 v9 v10 v11 v12 v13 v14 v15 v16 v17 v18 v19 v20 : Value) (h : W.heap[b']? = some o) (hne : b' ≠ b) : (((((((((((((((((((((W.setCell ⟨b, 0, none⟩ v0).setCell ⟨b, 1, none⟩ v1).setCell ⟨b, 2, none⟩ v2).setCell ⟨b, 3, none⟩ v3).setCell ⟨b, 4, none⟩ v4).setCell ⟨b, 5, none⟩ v5).setCell ⟨b, 6, none⟩ v6).setCell ⟨b, 7, none⟩ v7).setCell ⟨b, 8, none⟩ v8).setCell ⟨b, 9, none⟩ v9).setCell ⟨b, 10, none⟩ v10).setCell ⟨b, 11, none⟩ v11).setCell ⟨b, 12, none⟩ v12).setCell ⟨b, 13, none⟩ v13).setCell ⟨b, 14, none⟩ v14).setCell ⟨b, 15, none⟩ v15).setCell ⟨b, 16, none⟩ v16).setCell ⟨b, 17, none⟩ v17).setCell ⟨b, 18, none⟩ v18).setCell ⟨b, 19, none⟩ v19).setCell ⟨b, 20, none⟩ v20).heap[b']? = some o := (hoth v20 (hoth v19 (hoth v18 (hoth v17 (hoth v16 (hoth v15 (hoth v14 (hoth v13 (hoth v12 (hoth v11 (hoth v10 (hoth v9 (hoth v8 (hoth v7 (hoth v6 (hoth v5 (hoth v4 (hoth v3 (hoth v2 (hoth v1 (hoth v0 h hne) hne) hne) hne) hne) hne) hne) hne) hne) hne) hne) hne) hne) hne) hne) hne) hne) hne) hne) hne) hne)
theorem put21_below {n₀ : Nat} {W : World} {b : Nat} (v0 v1 v2 v3 v4 v5 v6 v7 v8 v9 v10 v11 v12 v13 v14 v15 v16 v17 v18 v19 v20 : Value) (hb : n₀ ≤ b) : Below n₀ W (((((((((((((((((((((W.setCell ⟨b, 0, none⟩ v0).setCell ⟨b, 1, none⟩ v1).setCell ⟨b, 2, none⟩ v2).setCell ⟨b, 3, none⟩ v3).setCell ⟨b, 4, none⟩ v4).setCell ⟨b, 5, none⟩ v5).setCell ⟨b, 6, none⟩ v6).setCell ⟨b, 7, none⟩ v7).setCell ⟨b, 8, none⟩ v8).setCell ⟨b, 9, none⟩ v9).setCell ⟨b, 10, none⟩ v10).setCell ⟨b, 11, none⟩ v11).setCell ⟨b, 12, none⟩ v12).setCell ⟨b, 13, none⟩ v13).setCell ⟨b, 14, none⟩ v14).setCell ⟨b, 15, none⟩ v15).setCell ⟨b, 16, none⟩ v16).setCell ⟨b, 17, none⟩ v17).setCell ⟨b, 18, none⟩ v18).setCell ⟨b, 19, none⟩ v19).setCell ⟨b, 20, none⟩ v20) := ((((((((((((((((((((((Below.refl n₀ W).setCell (p := ⟨b, 0, none⟩) hb v0).setCell (p := ⟨b, 1, none⟩) hb v1).setCell (p := ⟨b, 2, none⟩) hb v2).setCell (p := ⟨b, 3, none⟩) hb v3).setCell (p := ⟨b, 4, none⟩) hb v4).setCell (p := ⟨b, 5, none⟩) hb v5).setCell (p := ⟨b, 6, none⟩) hb v6).setCell (p := ⟨b, 7, none⟩) hb v7).setCell (p := ⟨b, 8, none⟩) hb v8).setCell (p := ⟨b, 9, none⟩) hb v9).setCell (p := ⟨b, 10, none⟩) hb v10).setCell (p := ⟨b, 11, none⟩) hb v11).setCell (p := ⟨b, 12, none⟩) hb v12).setCell (p := ⟨b, 13, none⟩) hb v13).setCell (p := ⟨b, 14, none⟩) hb v14).setCell (p := ⟨b, 15, none⟩) hb v15).setCell (p := ⟨b, 16, none⟩) hb v16).setCell (p := ⟨b, 17, none⟩) hb v17).setCell (p := ⟨b, 18, none⟩) hb v18).setCell (p := ⟨b, 19, none⟩) hb v19).setCell (p := ⟨b, 20, none⟩) hb v20)
theorem list21 {l : List Int} (h : l.length = 21) : ∃ a0 a1 a2 a3 a4 a5 a6 a7 a8 a9 a10 a11 a12 a13 a14 a15 a16 a17 a18 a19 a20 : Int, l = [a0, a1, a2, a3, a4, a5, a6, a7, a8, a9, a10, a11, a12, a13, a14, a15, a16, a17, a18, a19, a20] := by
  match l, h with
  | [a0, a1, a2, a3, a4, a5, a6, a7, a8, a9, a10, a11, a12, a13, a14, a15, a16, a17, a18, a19, a20], _ => exact ⟨a0, a1, a2, a3, a4, a5, a6, a7, a8, a9, a10, a11, a12, a13, a14, a15, a16, a17, a18, a19, a20, rfl⟩
/-- An array's box. -/
def Ab (W : World) (b : Nat) (l : List Int) : Prop := W.heap[b]? = some (.cells (l.map (Value.int .i64)).toArray 64 (0, 0))
theorem Ab.cell {W : World} {b : Nat} {l : List Int} (h : Ab W b l) {i : Nat} (hi : i < l.length) : W.cell? ⟨b, i, none⟩ = some (.int .i64 (gt l (i : Int))) := by
  unfold Ab at h
  simp [World.cell?, h, gt, hi]
theorem Ab.fz {W : World} {b : Nat} {l : List Int} (h : Ab W b l) (i : Nat) : W.frozen? ⟨b, i, none⟩ = false := by
  unfold Ab at h
  simp [World.frozen?, h]
theorem Ab.set {W : World} {b : Nat} {l : List Int} (h : Ab W b l) (i : Nat) (z : Int) : Ab (W.setCell ⟨b, i, none⟩ (.int .i64 z)) b (l.set i z) := by
  have h1 := hset (i := i) (.int .i64 z) h
  unfold Ab
  rw [h1]
  simp [List.map_set]
theorem Ab.oth {W : World} {b b' i : Nat} {l : List Int} (h : Ab W b l) (v : Value) (hne : b ≠ b') : Ab (W.setCell ⟨b', i, none⟩ v) b l := hoth v h hne
theorem own_ab {β : Type} {B : Nat} (b : Nat) (f : β → List Int) : OwnFrom B (fun s W => Ab W b (f s)) := fun s W W' row h hg hr => heap_own h rfl hg (fun r e => (hr r e).2)
abbrev av (l : List Int) : Value := .agg (l.map (Value.int .i64)).toArray
def zero21 : List Int := List.replicate 21 0
def il (k : Nat) : List Int := List.replicate k 1000001 ++ List.replicate (21 - k) 0
theorem il_set (k : Nat) (hk : k < 21) : (il k).set k 1000001 = il (k + 1) := by
  have h : ∀ k : Fin 21, (il k.1).set k.1 1000001 = il (k.1 + 1) := by decide +kernel
  exact h ⟨k, hk⟩
theorem il_len (k : Nat) (hk : k ≤ 21) : (il k).length = 21 := by simp [il]; omega
theorem list_snoc {α : Type} {P : List α → Prop} (h0 : P []) (h1 : ∀ l a, P l → P (l ++ [a])) (l : List α) : P l := by
  have h : ∀ r : List α, P r.reverse := by
    intro r
    induction r with
    | nil => exact h0
    | cons a r ih => rw [List.reverse_cons]; exact h1 _ _ ih
  have := h l.reverse
  rwa [List.reverse_reverse] at this
/-- The hops without what is known of them. -/
def hl (T : List Wn) : List Hp := (hopsL T).map (·.1)
theorem hok_of (h : HpO) : Hok h.1 := ⟨h.2.src, h.2.dst, h.2.w⟩
def ps (size : Int) (l : List Int) (pre : List HpO) : List Int := pass (pre.map (·.1)) size l
theorem ps_snoc (size : Int) (l : List Int) (pre : List HpO) (h : HpO) : ps size l (pre ++ [h]) = rx size (ps size l pre) h.1 := by simp [ps, pass]
theorem ps_ok {size : Int} {l : List Int} (hl : Aok l) (hs : 1 ≤ size) : ∀ pre : List HpO, Aok (ps size l pre) := by
  refine list_snoc hl fun pre h ih => ?_
  rw [ps_snoc]; exact rx_ok ih (hok_of h) hs
/-- What the flag says. -/
def fl (size : Int) (l : List Int) (pre : List HpO) : Bool := decide (tot (ps size l pre) < tot l)
theorem ps_tot {size : Int} {l : List Int} (hl : Aok l) (hs : 1 ≤ size) : ∀ pre : List HpO, tot (ps size l pre) ≤ tot l ∧ (¬ tot (ps size l pre) < tot l → ps size l pre = l) := by
  refine list_snoc ⟨Int.le_refl _, fun _ => rfl⟩ fun pre h ih => ?_
  have hk := ps_ok hl hs pre
  have h1 := rx_tot (size := size) hk.len (hok_of h)
  rw [ps_snoc]
  by_cases hc : hend' h.1.w (gt (ps size l pre) h.1.src) size < gt (ps size l pre) h.1.dst
  · have := h1.1 hc
    exact ⟨by omega, fun hn => absurd (show tot (rx size (ps size l pre) h.1) < tot l by omega) hn⟩
  · rw [h1.2 hc]; exact ih
theorem fl_yes {size : Int} {l : List Int} (hl : Aok l) (hs : 1 ≤ size) (pre : List HpO) (h : HpO) (hc : hend' h.1.w (gt (ps size l pre) h.1.src) size < gt (ps size l pre) h.1.dst) : fl size l (pre ++ [h]) = true := by
  have h1 := (rx_tot (size := size) (ps_ok hl hs pre).len (hok_of h)).1 hc
  have h2 := (ps_tot hl hs pre).1
  unfold fl
  rw [ps_snoc, decide_eq_true_eq]
  omega
theorem fl_no {size : Int} {l : List Int} (hl : Aok l) (hs : 1 ≤ size) (pre : List HpO) (h : HpO) (hc : ¬ hend' h.1.w (gt (ps size l pre) h.1.src) size < gt (ps size l pre) h.1.dst) : fl size l (pre ++ [h]) = fl size l pre ∧ ps size l (pre ++ [h]) = ps size l pre := by
  have h1 := (rx_tot (size := size) (ps_ok hl hs pre).len (hok_of h)).2 hc
  unfold fl
  rw [ps_snoc, h1]
  exact ⟨rfl, rfl⟩
/-- What earliest finds: the last of some passes, which changes nothing any more. -/
structure Erl (T : List Wn) (craft tick size : Int) (E : List Int) : Prop where
  ok : Aok E
  steps : ∃ k, E = itr (hl T) size k (ini craft tick)
  last : pass (hl T) size E = E
end Q
end Go.Proofs.Ytojflmejkigdiaa
