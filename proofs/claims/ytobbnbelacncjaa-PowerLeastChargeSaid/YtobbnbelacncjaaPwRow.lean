/-
  Rows of loads in memory; the order of service as data.
-/
import Derived.Test.YtobbnbelacncjaaPwK
namespace Go.Proofs.Ytobbnbelacncjaa
open Go.RowKit
namespace Pw
open H
set_option linter.unusedVariables false
set_option linter.unusedSimpArgs false
theorem hset {W : World} {b i : Nat} {cs : Array Value} {T : TypeId} {m : Nat × Nat} (v : Value) (h : W.heap[b]? = some (.cells cs T m)) : (W.setCell ⟨b, i, none⟩ v).heap[b]? = some (.cells (cs.setIfInBounds i v) T m) := by
  obtain ⟨hlt, hk⟩ := Array.getElem?_eq_some_iff.1 h
  show (W.heap.modify b _)[b]? = _
  rw [Array.getElem?_eq_getElem (by rw [Array.size_modify]; exact hlt), Array.getElem_modify_self, hk]
  rfl
theorem hlt_of {W : World} {b : Nat} {o : Obj} (h : W.heap[b]? = some o) : b < W.heap.size := (Array.getElem?_eq_some_iff.1 h).1
theorem cell_obj {W : World} {g : Nat} {cs : Array Value} {T : TypeId} {m : Nat × Nat} (h : W.heap[g]? = some (.cells cs T m)) (j : Nat) : W.cell? ⟨g, j, none⟩ = cs[j]? := by simp [World.cell?, h]
theorem frz_obj {W : World} {g : Nat} {cs : Array Value} {T : TypeId} (h : W.heap[g]? = some (.cells cs T (0, 0))) (j : Nat) : W.frozen? ⟨g, j, none⟩ = false := by simp [World.frozen?, h]
def cells4 (x : Ld) : List Value := [.int .i64 x.id, .int .i64 x.pow, .int .i64 x.pri, .bool x.ess]
def flat4 (L : List Ld) : List Value := L.flatMap cells4
theorem flat4_cons (x : Ld) (L : List Ld) : flat4 (x :: L) = cells4 x ++ flat4 L := List.flatMap_cons
theorem flat4_app (L M : List Ld) : flat4 (L ++ M) = flat4 L ++ flat4 M := List.flatMap_append
theorem flat4_len (L : List Ld) : (flat4 L).length = L.length * 4 := by
  induction L with
  | nil => rfl
  | cons x L ih => rw [flat4_cons, List.length_append, ih, List.length_cons]; show 4 + _ = _; omega
theorem flat4_snoc (L : List Ld) (x : Ld) : flat4 (L ++ [x]) = flat4 L ++ cells4 x := by
  rw [flat4_app]
  exact congrArg _ (List.append_nil _)
theorem cells4_one (x : Ld) : ∀ u ∈ cells4 x, u.oneCell' = true := by
  intro u hx
  unfold cells4 at hx
  simp only [List.mem_cons, List.not_mem_nil, or_false] at hx
  rcases hx with rfl | rfl | rfl | rfl <;> rfl
theorem flat4_get : ∀ (L : List Ld) (j i : Nat) (x : Ld), L[j]? = some x → i < 4 → (flat4 L)[j * 4 + i]? = (cells4 x)[i]?
  | [], j, i, x, h, hi => by simp at h
  | y :: L, 0, i, x, h, hi => by
    obtain rfl : y = x := by simpa using h
    rw [flat4_cons, List.getElem?_append_left (by show 0 * 4 + i < 4; omega), Nat.zero_mul, Nat.zero_add]
  | y :: L, j + 1, i, x, h, hi => by
    rw [flat4_cons, List.getElem?_append_right (by show 4 ≤ (j + 1) * 4 + i; omega), show (j + 1) * 4 + i - (cells4 y).length = j * 4 + i from by show (j + 1) * 4 + i - 4 = _; omega]
    exact flat4_get L j i x (by simpa using h) hi
theorem flat4_at {L : List Ld} {j : Nat} (h : j < L.length * 4) : ∃ i r x, j = i * 4 + r ∧ r < 4 ∧ L[i]? = some x ∧ (flat4 L)[j]? = (cells4 x)[r]? := by
  have hi : j / 4 < L.length := by omega
  have hx := List.getElem?_eq_getElem hi
  refine ⟨j / 4, j % 4, L[j / 4], by omega, by omega, hx, ?_⟩
  rw [← flat4_get L (j / 4) (j % 4) _ hx (by omega), show j / 4 * 4 + j % 4 = j by omega]
theorem infoL : (Try.prog.info? 41).map (fun i => (i.zero, i.size, i.bytes)) = some (some (.agg #[.int .i64 0, .int .i64 0, .int .i64 0, .bool false]), 4, 32) := by kernel_rfl
/-- Four stores into a row. -/
abbrev put4o (W : World) (g o : Nat) (x : Ld) : World := ((((W.setCell ⟨g, o, none⟩ (.int .i64 x.id)).setCell ⟨g, o + 1, none⟩ (.int .i64 x.pow)).setCell ⟨g, o + 2, none⟩ (.int .i64 x.pri)).setCell ⟨g, o + 3, none⟩ (.bool x.ess))
abbrev set4 (cs : Array Value) (o : Nat) (x : Ld) : Array Value := ((((cs.setIfInBounds o (.int .i64 x.id)).setIfInBounds (o + 1) (.int .i64 x.pow)).setIfInBounds (o + 2) (.int .i64 x.pri)).setIfInBounds (o + 3) (.bool x.ess))
theorem put4o_obj {W : World} {g o : Nat} {cs : Array Value} {T : TypeId} {m : Nat × Nat} (x : Ld) (h : W.heap[g]? = some (.cells cs T m)) : (put4o W g o x).heap[g]? = some (.cells (set4 cs o x) T m) :=
  hset _ (hset _ (hset _ (hset _ h)))
theorem put4o_below {n₀ : Nat} {W : World} {g : Nat} (o : Nat) (x : Ld) (hb : n₀ ≤ g) : Below n₀ W (put4o W g o x) :=
  ((((Below.refl n₀ W).setCell (p := ⟨g, o, none⟩) hb _).setCell (p := ⟨g, o + 1, none⟩) hb _).setCell (p := ⟨g, o + 2, none⟩) hb _).setCell (p := ⟨g, o + 3, none⟩) hb _
theorem set4_in {cs : Array Value} {o : Nat} (x : Ld) (h : o + 3 < cs.size) (r : Nat) (hr : r < 4) : (set4 cs o x)[o + r]? = (cells4 x)[r]? := by
  unfold set4 cells4
  simp only [Array.getElem?_setIfInBounds, Array.size_setIfInBounds]
  match r, hr with
  | 0, _ => simp; omega
  | 1, _ => simp; omega
  | 2, _ => simp; omega
  | 3, _ => simp; omega
theorem set4_out {cs : Array Value} {o : Nat} (x : Ld) (j : Nat) (hj : j < o ∨ o + 4 ≤ j) : (set4 cs o x)[j]? = cs[j]? := by
  unfold set4
  simp only [Array.getElem?_setIfInBounds, Array.size_setIfInBounds]
  rw [if_neg (by omega), if_neg (by omega), if_neg (by omega), if_neg (by omega)]
/-- A row of loads of one's own. -/
def OwnL (W : World) (base g c : Nat) (L : List Ld) : Prop := base ≤ g ∧ L.length ≤ c ∧ c ≤ maxLen ∧ ∃ cur, W.heap[g]? = some (.cells cur 41 (0, 0)) ∧ cur.size = c * 4 ∧ cur.toList.take (L.length * 4) = flat4 L
theorem own_l {W : World} {base n : Nat} {v : Value} {L : List Ld} (h : W.ownsRow base 41 4 v n (flat4 L)) (hn : n = L.length) (h0 : 0 < n) : ∃ g c, v = .slice (some ⟨g, 0, none⟩) L.length c ∧ OwnL W base g c L := by
  subst hn
  obtain ⟨hl, ⟨rfl, h1⟩ | ⟨g, c, cur, rfl, hg, hh, hnc, hcm, hcs, ht⟩⟩ := h
  · omega
  · exact ⟨g, c, rfl, hg, hnc, hcm, cur, hh, hcs, ht⟩
theorem OwnL.row {W : World} {base g c : Nat} {L : List Ld} (h : OwnL W base g c L) : W.ownsRow base 41 4 (.slice (some ⟨g, 0, none⟩) L.length c) L.length (flat4 L) := by
  obtain ⟨h1, h2, h3, cur, h4, h5, h6⟩ := h
  exact ⟨flat4_len L, .inr ⟨g, c, cur, rfl, h1, h4, h2, h3, h5, h6⟩⟩
theorem OwnL.keep {W V : World} {base g c : Nat} {L : List Ld} (h : OwnL W base g c L) (hB : Below W.heap.size W V) : OwnL V base g c L := by
  obtain ⟨h1, h2, h3, cur, h4, h5, h6⟩ := h
  exact ⟨h1, h2, h3, cur, heap_keep hB h4, h5, h6⟩
theorem OwnL.rd {W : World} {base g c : Nat} {L : List Ld} (h : OwnL W base g c L) {k : Nat} {x : Ld} (hx : L[k]? = some x) : W.cell? ⟨g, k * 4, none⟩ = some (.int .i64 x.id) ∧ W.cell? ⟨g, k * 4 + 1, none⟩ = some (.int .i64 x.pow) ∧ W.cell? ⟨g, k * 4 + 2, none⟩ = some (.int .i64 x.pri) ∧ W.cell? ⟨g, k * 4 + 3, none⟩ = some (.bool x.ess) := by
  obtain ⟨h1, h2, h3, cur, h4, h5, h6⟩ := h
  have hk := (List.getElem?_eq_some_iff.1 hx).1
  have key : ∀ r, r < 4 → cur[k * 4 + r]? = (cells4 x)[r]? := fun r hr => by
    rw [← flat4_get L k r x hx hr, ← h6, List.getElem?_take, if_pos (by omega), Array.getElem?_toList]
  refine ⟨?_, ?_, ?_, ?_⟩
  · rw [cell_obj h4]; exact key 0 (by omega)
  · rw [cell_obj h4]; exact key 1 (by omega)
  · rw [cell_obj h4]; exact key 2 (by omega)
  · rw [cell_obj h4]; exact key 3 (by omega)
theorem OwnL.fz {W : World} {base g c : Nat} {L : List Ld} (h : OwnL W base g c L) (j : Nat) : W.frozen? ⟨g, j, none⟩ = false := by
  obtain ⟨h1, h2, h3, cur, h4, h5, h6⟩ := h
  exact frz_obj h4 j
theorem OwnL.put {W : World} {base g c : Nat} {L : List Ld} (h : OwnL W base g c L) {k : Nat} (hk : k < L.length) (y : Ld) : OwnL (put4o W g (k * 4) y) base g c (L.set k y) := by
  obtain ⟨h1, h2, h3, cur, h4, h5, h6⟩ := h
  refine ⟨h1, by rw [List.length_set]; exact h2, h3, _, put4o_obj y h4, by simp [set4, h5], ?_⟩
  rw [List.length_set]
  apply List.ext_getElem?
  intro j
  rw [List.getElem?_take]
  by_cases hj : j < L.length * 4
  · rw [if_pos hj, Array.getElem?_toList]
    obtain ⟨i, r, x, rfl, hr, hx, hu⟩ := flat4_at (L := L.set k y) (j := j) (by rw [List.length_set]; exact hj)
    rw [hu]
    rw [List.getElem?_set] at hx
    by_cases e : k = i
    · subst e
      rw [if_pos rfl, if_pos hk] at hx
      rw [← Option.some.inj hx]
      exact set4_in y (by omega) r hr
    · rw [if_neg e] at hx
      rw [set4_out y _ (by omega), ← flat4_get L i r x hx hr, ← h6, List.getElem?_take, if_pos hj, Array.getElem?_toList]
  · rw [if_neg hj, List.getElem?_eq_none]
    rw [flat4_len, List.length_set]
    omega
/-- Loads in the order of service, one more. -/
def insR : List Ld → Ld → List Ld
  | [], x => [x]
  | y :: r, x => if bef x y = true then y :: insR r x else x :: y :: r
def insL (L : List Ld) (x : Ld) : List Ld := (insR L.reverse x).reverse
def ord (L : List Ld) : List Ld := L.foldl insL []
theorem insL_nil (x : Ld) : insL [] x = [x] := rfl
theorem insL_yes {L : List Ld} {x y : Ld} (h : bef x y = true) : insL (L ++ [y]) x = insL L x ++ [y] := by
  unfold insL
  rw [List.reverse_append]
  show (insR (y :: L.reverse) x).reverse = _
  rw [show insR (y :: L.reverse) x = y :: insR L.reverse x by show (if bef x y = true then _ else _) = _; rw [if_pos h], List.reverse_cons]
theorem insL_no {L : List Ld} {x y : Ld} (h : bef x y = false) : insL (L ++ [y]) x = L ++ [y] ++ [x] := by
  unfold insL
  rw [List.reverse_append]
  show (insR (y :: L.reverse) x).reverse = _
  rw [show insR (y :: L.reverse) x = x :: y :: L.reverse by show (if bef x y = true then _ else _) = _; rw [h]; rfl]
  simp
theorem ord_step {T : List Ld} {x : Ld} {i : Nat} (h : T[i]? = some x) : ord (T.take (i + 1)) = insL (ord (T.take i)) x := by
  unfold ord
  rw [List.take_add_one, h, Option.toList_some, List.foldl_append]
  rfl
theorem insR_len (L : List Ld) (x : Ld) : (insR L x).length = L.length + 1 := by
  induction L with
  | nil => rfl
  | cons y r ih => unfold insR; split <;> simp [ih]
theorem insL_len (L : List Ld) (x : Ld) : (insL L x).length = L.length + 1 := by unfold insL; simp [insR_len]
theorem ord_len (L : List Ld) : (ord L).length = L.length := by
  have h : ∀ (L M : List Ld), (L.foldl insL M).length = L.length + M.length := by
    intro L
    induction L with
    | nil => simp
    | cons x L ih => intro M; rw [List.foldl_cons, ih, insL_len, List.length_cons]; omega
  rw [ord, h]; simp
end Pw
end Go.Proofs.Ytobbnbelacncjaa
