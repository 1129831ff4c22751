/-
  Two neighbouring windows of a table exchanged in their row.
-/
import Derived.Test.YtojflmejkigdiaaQTab
import Derived.Test.YtojflmejkigdiaaQCkB
namespace Go.Proofs.Ytojflmejkigdiaa
open Go.RowKit
namespace Q
open H
set_option linter.unusedVariables false
set_option linter.unusedSimpArgs false
/-- Six stores into a row. -/
abbrev put6o (W : World) (g o : Nat) (x : Wn) : World := ((((((W.setCell ⟨g, o, none⟩ (.int .i64 x.kind)).setCell ⟨g, o + 1, none⟩ (.int .i64 x.a)).setCell ⟨g, o + 2, none⟩ (.int .i64 x.b)).setCell ⟨g, o + 3, none⟩ (.int .i64 x.fr)).setCell ⟨g, o + 4, none⟩ (.int .i64 x.un)).setCell ⟨g, o + 5, none⟩ (.int .i64 x.rate))
abbrev set6 (cs : Array Value) (o : Nat) (x : Wn) : Array Value := ((((((cs.setIfInBounds o (.int .i64 x.kind)).setIfInBounds (o + 1) (.int .i64 x.a)).setIfInBounds (o + 2) (.int .i64 x.b)).setIfInBounds (o + 3) (.int .i64 x.fr)).setIfInBounds (o + 4) (.int .i64 x.un)).setIfInBounds (o + 5) (.int .i64 x.rate))
theorem put6o_obj {W : World} {g o : Nat} {cs : Array Value} {T : TypeId} {m : Nat × Nat} (x : Wn) (h : W.heap[g]? = some (.cells cs T m)) : (put6o W g o x).heap[g]? = some (.cells (set6 cs o x) T m) :=
  hset _ (hset _ (hset _ (hset _ (hset _ (hset _ h)))))
theorem put6o_below {n₀ : Nat} {W : World} {g : Nat} (o : Nat) (x : Wn) (hb : n₀ ≤ g) : Below n₀ W (put6o W g o x) :=
  ((((((Below.refl n₀ W).setCell (p := ⟨g, o, none⟩) hb _).setCell (p := ⟨g, o + 1, none⟩) hb _).setCell (p := ⟨g, o + 2, none⟩) hb _).setCell (p := ⟨g, o + 3, none⟩) hb _).setCell (p := ⟨g, o + 4, none⟩) hb _).setCell (p := ⟨g, o + 5, none⟩) hb _
theorem cell_obj {W : World} {g : Nat} {cs : Array Value} {T : TypeId} {m : Nat × Nat} (h : W.heap[g]? = some (.cells cs T m)) (j : Nat) : W.cell? ⟨g, j, none⟩ = cs[j]? := by simp [World.cell?, h]
theorem frz_obj {W : World} {g : Nat} {cs : Array Value} {T : TypeId} (h : W.heap[g]? = some (.cells cs T (0, 0))) (j : Nat) : W.frozen? ⟨g, j, none⟩ = false := by simp [World.frozen?, h]
theorem set6_in {cs : Array Value} {o : Nat} (x : Wn) (h : o + 5 < cs.size) (r : Nat) (hr : r < 6) : (set6 cs o x)[o + r]? = (cells6 x)[r]? := by
  unfold set6 cells6
  simp only [Array.getElem?_setIfInBounds, Array.size_setIfInBounds]
  match r, hr with
  | 0, _ => simp; omega
  | 1, _ => simp; omega
  | 2, _ => simp; omega
  | 3, _ => simp; omega
  | 4, _ => simp; omega
  | 5, _ => simp; omega
theorem set6_out {cs : Array Value} {o : Nat} (x : Wn) (j : Nat) (hj : j < o ∨ o + 6 ≤ j) : (set6 cs o x)[j]? = cs[j]? := by
  unfold set6
  simp only [Array.getElem?_setIfInBounds, Array.size_setIfInBounds]
  rw [if_neg (by omega), if_neg (by omega), if_neg (by omega), if_neg (by omega), if_neg (by omega), if_neg (by omega)]
theorem flat6_at {L : List Wn} {j : Nat} {u : Value} (h : (flat6 L)[j]? = some u) : ∃ i r x, j = i * 6 + r ∧ r < 6 ∧ L[i]? = some x ∧ (cells6 x)[r]? = some u := by
  have hl := (List.getElem?_eq_some_iff.1 h).1
  rw [flat6_len] at hl
  have hi : j / 6 < L.length := by omega
  have hx := List.getElem?_eq_getElem hi
  refine ⟨j / 6, j % 6, L[j / 6], by omega, by omega, hx, ?_⟩
  rw [← flat6_get L (j / 6) (j % 6) _ hx (by omega), show j / 6 * 6 + j % 6 = j by omega]
  exact h
theorem R6.put {W : World} {g : Nat} {L : List Wn} (h : R6 W g L) {k : Nat} (hk : k < L.length) (y : Wn) : R6 (put6o W g (k * 6) y) g (L.set k y) := by
  obtain ⟨cs, t, ho⟩ := h.hp
  have hs : k * 6 + 5 < cs.size := by
    obtain ⟨x, hx⟩ : ∃ x, L[k]? = some x := ⟨_, List.getElem?_eq_getElem hk⟩
    have h1 := h.c _ _ (flat6_get L k 5 x hx (by omega))
    rw [cell_obj ho] at h1
    exact (Array.getElem?_eq_some_iff.1 h1).1
  refine ⟨fun j u hu => ?_, _, t, put6o_obj y ho⟩
  rw [cell_obj (put6o_obj y ho)]
  obtain ⟨i, r, x, rfl, hr, hx, hu⟩ := flat6_at hu
  rw [List.getElem?_set] at hx
  by_cases e : k = i
  · subst e
    rw [if_pos rfl, if_pos hk] at hx
    obtain rfl := Option.some.inj hx
    rw [set6_in y hs r hr]
    exact hu
  · rw [if_neg e] at hx
    rw [set6_out y _ (by omega)]
    have h1 := flat6_get L i r x hx hr
    rw [hu] at h1
    have h2 := h.c _ _ h1
    rwa [cell_obj ho] at h2
def swp (T : List Wn) (k : Nat) (x y : Wn) : List Wn := (T.set k y).set (k + 1) x
theorem swp_chk {T : List Wn} (h : Good T) (hl : T.length ≤ 200) {k : Nat} {x y : Wn} (hx : T[k]? = some x) (hy : T[k + 1]? = some y) : chk (swp T k x y) = 23 := by
  have h1 := (List.getElem?_eq_some_iff.1 hx).1
  have h2 := (List.getElem?_eq_some_iff.1 hy).1
  refine chk_swap h hl hx hy (by simp [swp]) ?_ ?_ ?_
  · unfold swp
    rw [List.getElem?_set_ne (by omega), List.getElem?_set_self (by omega)]
  · unfold swp
    rw [List.getElem?_set_self (by simp; omega)]
  · intro z hz
    unfold swp at hz
    rcases List.mem_or_eq_of_mem_set hz with hz | rfl
    · rcases List.mem_or_eq_of_mem_set hz with hz | rfl
      · exact hz
      · exact List.mem_of_getElem? hy
    · exact List.mem_of_getElem? hx
theorem R6.swp {W : World} {g : Nat} {T : List Wn} (h : R6 W g T) {k : Nat} (hk : k + 1 < T.length) (x y : Wn) : R6 (put6o (put6o W g (k * 6) y) g ((k + 1) * 6) x) g (swp T k x y) :=
  (h.put (by omega) y).put (by simp; omega) x
end Q
end Go.Proofs.Ytojflmejkigdiaa
