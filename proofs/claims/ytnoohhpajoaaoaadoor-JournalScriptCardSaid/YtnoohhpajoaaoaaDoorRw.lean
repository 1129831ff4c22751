/-
  Slices of cells and slices of slices of numbers, read; an append of one onto a slice of the call's own. Nothing here speaks of one program.
-/
import Derived.Test.YtnoohhpajoaaoaaDoorFoot
import Derived.Laws.AppendOwnNone
import Derived.WalkKit
namespace Go.Proofs.YtnoohhpajoaaoaaDoor
open Go.RowKit
namespace R
open H
set_option linter.unusedVariables false
/-- v is a slice whose elements are the cells us; they lie in blocks of G. -/
def Sl (w : World) (G : Nat → Prop) (v : Value) (us : List Value) : Prop :=
  ∃ A c, v = .slice A us.length c ∧ (A = none → c = 0) ∧ us.length ≤ c ∧ ∀ (j : Nat) (u : Value), us[j]? = some u → ∃ ad, A = some ad ∧ G ad.block ∧ w.cell? (ad.add j) = some u ∧ w.frozen? (ad.add j) = false
theorem cell_same {w w' : World} {a : Addr} (h : w'.heap[a.block]? = w.heap[a.block]?) : w'.cell? a = w.cell? a := by simp [World.cell?, h]
theorem frozen_same {w w' : World} {a : Addr} (h : w'.heap[a.block]? = w.heap[a.block]?) : w'.frozen? a = w.frozen? a := by simp [World.frozen?, h]
theorem block_lt {w : World} {a : Addr} {v : Value} (h : w.cell? a = some v) : a.block < w.heap.size := World.block_lt_of_cell? w a h
theorem Sl.as {w w' : World} {G : Nat → Prop} {v : Value} {us : List Value} (h : Sl w G v us) (hs : ∀ k, k < w.heap.size → G k → w'.heap[k]? = w.heap[k]?) : Sl w' G v us := by
  obtain ⟨A, c, rfl, h0, hcap, hr⟩ := h
  refine ⟨A, c, rfl, h0, hcap, fun j u hu => ?_⟩
  obtain ⟨ad, e, hg, hc, hf⟩ := hr j u hu
  have hlt := block_lt hc
  have hsame : w'.heap[(ad.add j).block]? = w.heap[(ad.add j).block]? := by
    rw [add_block] at hlt ⊢
    exact hs _ hlt hg
  exact ⟨ad, e, hg, (cell_same hsame).trans hc, (frozen_same hsame).trans hf⟩
theorem Sl.mono {w : World} {G G' : Nat → Prop} {v : Value} {us : List Value} (h : Sl w G v us) (hs : ∀ k, k < w.heap.size → G k → G' k) : Sl w G' v us := by
  obtain ⟨A, c, rfl, h0, hcap, hr⟩ := h
  refine ⟨A, c, rfl, h0, hcap, fun j u hu => ?_⟩
  obtain ⟨ad, e, hg, hc, hf⟩ := hr j u hu
  have hlt := block_lt hc
  rw [add_block] at hlt
  exact ⟨ad, e, hs _ hlt hg, hc, hf⟩
theorem Sl.save {w w' : World} {F G : Nat → Prop} {v : Value} {us : List Value} (h : Sl w G v us) (hs : Save F w w') (hF : ∀ k, G k → ¬ F k) : Sl w' G v us := h.as fun k hk hg => hs.block k hk (hF k hg)
theorem Sl.keep {w w' : World} {G : Nat → Prop} {v : Value} {us : List Value} (h : Sl w G v us) (hb : Below w.heap.size w w') : Sl w' G v us := h.as fun k hk _ => hb.block k hk
theorem Sl.drewN {w : World} {G : Nat → Prop} {v : Value} {us : List Value} (h : Sl w G v us) (n : Nat) : Sl (w.drewN n) G v us := h
theorem Sl.nil {w : World} {G : Nat → Prop} : Sl w G (.slice none 0 0) [] := ⟨none, 0, rfl, fun _ => rfl, Nat.le_refl _, fun j u h => by simp at h⟩
/-- A slice of the call's own. -/
theorem Sl.own {w : World} {base n : Nat} {e : TypeId} {v : Value} {us : List Value} {G : Nat → Prop} (h : w.ownsRow base e 1 v n us) (hG : ∀ k, v.ownBlock = some k → G k) : Sl w G v us := by
  have hl : us.length = n := by have := h.1; omega
  rcases h.2 with ⟨rfl, h0⟩ | ⟨g, cap, cur, rfl, hg, hh, hr, hm, hsz, ht⟩
  · obtain rfl : us = [] := List.eq_nil_of_length_eq_zero (by omega)
    exact Sl.nil
  · subst hl
    refine ⟨some ⟨g, 0, none⟩, cap, rfl, (fun e => by cases e), hr, fun j u hu => ⟨_, rfl, hG g rfl, ?_⟩⟩
    have hj : j < us.length := (List.getElem?_eq_some_iff.1 hu).1
    have e : (⟨g, 0, none⟩ : Addr).add j = ⟨g, j, none⟩ := by unfold Addr.add; split <;> simp_all
    rw [e]
    refine ⟨?_, blk_frozen hh j⟩
    rw [blk_cell hh j, ← hu, ← ht]
    rw [List.getElem?_take, if_pos (by omega)]
    simp
/-- What an element's load asks. -/
theorem Sl.get {w : World} {G : Nat → Prop} {A : Option Addr} {n c : Nat} {us : List Value} (h : Sl w G (.slice A n c) us) : n = us.length ∧ ∀ (j : Nat) (u : Value), us[j]? = some u → ∃ ad, A = some ad ∧ G ad.block ∧ w.cell? (ad.add j) = some u ∧ w.frozen? (ad.add j) = false := by
  obtain ⟨A', c', e, _, _, hr⟩ := h
  injection e with e1 e2 e3
  subst e1 e2 e3
  exact ⟨rfl, hr⟩
theorem Sl.shape {w : World} {G : Nat → Prop} {v : Value} {us : List Value} (h : Sl w G v us) : ∃ A c, v = .slice A us.length c := by
  obtain ⟨A, c, rfl, _⟩ := h
  exact ⟨A, c, rfl⟩
theorem Sl.cap {w : World} {G : Nat → Prop} {A : Option Addr} {n c : Nat} {us : List Value} (h : Sl w G (.slice A n c) us) : us.length ≤ c := by
  obtain ⟨A', c', e, _, hcap, _⟩ := h
  injection e with e1 e2 e3
  subst e3
  exact hcap
def w32 (xs : List Nat) : List Value := xs.map fun (x : Nat) => Value.int .u32 (x : Int)
theorem w32_len (xs : List Nat) : (w32 xs).length = xs.length := List.length_map _
theorem w32_at {xs : List Nat} {j x : Nat} (h : xs[j]? = some x) : (w32 xs)[j]? = some (.int .u32 (x : Int)) := by
  unfold w32
  rw [List.getElem?_map, h]; rfl
/-- v is a slice of numbers xs (32 bits). -/
def Rd (w : World) (G : Nat → Prop) (v : Value) (xs : List Nat) : Prop := Sl w G v (w32 xs)
/-- v is a slice of such slices. -/
def RR (w : World) (G : Nat → Prop) (v : Value) (rows : List (List Nat)) : Prop :=
  ∃ us, Sl w G v us ∧ us.length = rows.length ∧ (∀ u ∈ us, u.oneCell' = true) ∧ ∀ (i : Nat) (u : Value) (xs : List Nat), us[i]? = some u → rows[i]? = some xs → Rd w G u xs
theorem RR.as {w w' : World} {G : Nat → Prop} {v : Value} {rows : List (List Nat)} (h : RR w G v rows) (hs : ∀ k, k < w.heap.size → G k → w'.heap[k]? = w.heap[k]?) : RR w' G v rows := by
  obtain ⟨us, h1, h2, h3, h4⟩ := h
  exact ⟨us, h1.as hs, h2, h3, fun i u xs hu hx => Sl.as (h4 i u xs hu hx) hs⟩
theorem RR.mono {w : World} {G G' : Nat → Prop} {v : Value} {rows : List (List Nat)} (h : RR w G v rows) (hs : ∀ k, k < w.heap.size → G k → G' k) : RR w G' v rows := by
  obtain ⟨us, h1, h2, h3, h4⟩ := h
  exact ⟨us, h1.mono hs, h2, h3, fun i u xs hu hx => Sl.mono (h4 i u xs hu hx) hs⟩
theorem RR.save {w w' : World} {F G : Nat → Prop} {v : Value} {rows : List (List Nat)} (h : RR w G v rows) (hs : Save F w w') (hF : ∀ k, G k → ¬ F k) : RR w' G v rows := h.as fun k hk hg => hs.block k hk (hF k hg)
theorem RR.keep {w w' : World} {G : Nat → Prop} {v : Value} {rows : List (List Nat)} (h : RR w G v rows) (hb : Below w.heap.size w w') : RR w' G v rows := h.as fun k hk _ => hb.block k hk
theorem RR.drewN {w : World} {G : Nat → Prop} {v : Value} {rows : List (List Nat)} (h : RR w G v rows) (n : Nat) : RR (w.drewN n) G v rows := h
theorem RR.nil {w : World} {G : Nat → Prop} : RR w G (.slice none 0 0) [] := ⟨[], Sl.nil, rfl, fun u h => by simp at h, fun i u xs h => by simp at h⟩
theorem RR.shape {w : World} {G : Nat → Prop} {v : Value} {rows : List (List Nat)} (h : RR w G v rows) : ∃ A c, v = .slice A rows.length c := by
  obtain ⟨us, ⟨A, c, rfl, _⟩, h2, _⟩ := h
  exact ⟨A, c, by rw [h2]⟩
/-- What a row's load asks, and what it gives. -/
theorem RR.get {w : World} {G : Nat → Prop} {A : Option Addr} {n c : Nat} {rows : List (List Nat)} (h : RR w G (.slice A n c) rows) {i : Nat} {xs : List Nat} (hx : rows[i]? = some xs) :
    ∃ ad B d, A = some ad ∧ w.cell? (ad.add i) = some (.slice B xs.length d) ∧ Rd w G (.slice B xs.length d) xs := by
  obtain ⟨us, h1, h2, h3, h4⟩ := h
  have hi := (List.getElem?_eq_some_iff.1 hx).1
  have hu : us[i]? = some us[i] := List.getElem?_eq_getElem (by omega)
  obtain ⟨_, hr⟩ := h1.get
  obtain ⟨ad, e, _, hc, _⟩ := hr i _ hu
  have hrd := h4 i _ xs hu hx
  obtain ⟨B, d, hs⟩ := Sl.shape hrd
  rw [w32_len] at hs
  rw [hs] at hc hrd
  exact ⟨ad, B, d, e, hc, hrd⟩
theorem Rd.get {w : World} {G : Nat → Prop} {A : Option Addr} {n c : Nat} {xs : List Nat} (h : Rd w G (.slice A n c) xs) {j x : Nat} (hx : xs[j]? = some x) : ∃ ad, A = some ad ∧ w.cell? (ad.add j) = some (.int .u32 (x : Int)) := by
  obtain ⟨_, hr⟩ := Sl.get h
  obtain ⟨ad, e, _, hc, _⟩ := hr j _ (w32_at hx)
  exact ⟨ad, e, hc⟩
/-- A row more, in an outer slice of the call's own. -/
theorem RR.snoc {w : World} {G : Nat → Prop} {v : Value} {us : List Value} {rows : List (List Nat)} {u : Value} {xs : List Nat} (hl : us.length = rows.length) (h1 : ∀ x ∈ us, x.oneCell' = true) (hr : ∀ (i : Nat) (u : Value) (xs : List Nat), us[i]? = some u → rows[i]? = some xs → Rd w G u xs)
    (hs : Sl w G v (us ++ [u])) (hu : u.oneCell' = true) (hx : Rd w G u xs) : RR w G v (rows ++ [xs]) := by
  refine ⟨us ++ [u], hs, by simp [hl], fun x hx' => ?_, fun i y ys hy hys => ?_⟩
  · rcases List.mem_append.1 hx' with h | h
    · exact h1 x h
    · rw [List.mem_singleton.1 h]; exact hu
  · rcases Nat.lt_or_ge i us.length with hi | hi
    · rw [List.getElem?_append_left hi] at hy
      rw [List.getElem?_append_left (by omega)] at hys
      exact hr i y ys hy hys
    · rw [List.getElem?_append_right hi] at hy
      rw [List.getElem?_append_right (by omega)] at hys
      have h0 := (List.getElem?_eq_some_iff.1 hy).1
      simp only [List.length_cons, List.length_nil] at h0
      have e1 : i - us.length = 0 := by omega
      have e2 : i - rows.length = 0 := by omega
      rw [e1] at hy
      rw [e2] at hys
      simp only [List.getElem?_cons_zero, Option.some.injEq] at hy hys
      subst hy hys
      exact hx
theorem RR.cap {w : World} {G : Nat → Prop} {A : Option Addr} {n c : Nat} {rows : List (List Nat)} (h : RR w G (.slice A n c) rows) : rows.length ≤ c := by
  obtain ⟨us, h1, h2, _⟩ := h
  have := h1.cap
  omega
/-! ### Rows whose numbers are changed in place -/
def MRow (w : World) (G : Nat → Prop) (u : Value) (n : Nat) : Prop :=
  ∃ A c, u = .slice A n c ∧ ∀ j, j < n → ∃ ad x, A = some ad ∧ G ad.block ∧ w.cell? (ad.add j) = some (.int .u32 x) ∧ w.frozen? (ad.add j) = false
def MR (w : World) (G : Nat → Prop) (v : Value) (us : List Value) (ns : List Nat) : Prop := Sl w G v us ∧ us.length = ns.length ∧ ∀ (i : Nat) (u : Value) (n : Nat), us[i]? = some u → ns[i]? = some n → MRow w G u n
theorem Rd.mrow {w : World} {G : Nat → Prop} {u : Value} {xs : List Nat} (h : Rd w G u xs) : MRow w G u xs.length := by
  obtain ⟨A, c, e, _, _, hr⟩ := h
  rw [w32_len] at e
  refine ⟨A, c, e, fun j hj => ?_⟩
  obtain ⟨ad, e1, hg, hc, hf⟩ := hr j _ (w32_at (List.getElem?_eq_getElem hj))
  exact ⟨ad, _, e1, hg, hc, hf⟩
theorem RR.mr {w : World} {G : Nat → Prop} {v : Value} {rows : List (List Nat)} (h : RR w G v rows) : ∃ us, MR w G v us (rows.map List.length) := by
  obtain ⟨us, h1, h2, _, h4⟩ := h
  refine ⟨us, h1, by simp [h2], fun i u n hu hn => ?_⟩
  rw [List.getElem?_map] at hn
  cases hx : rows[i]? with
  | none => rw [hx] at hn; cases hn
  | some xs =>
    rw [hx] at hn
    simp only [Option.map_some, Option.some.injEq] at hn
    subst hn
    exact (h4 i u xs hu hx).mrow
theorem frozen_set {w : World} {a p : Addr} {v : Value} : (w.setCell p v).frozen? a = w.frozen? a := by
  simp only [World.frozen?, World.setCell]
  by_cases h : p.block = a.block
  · rw [Array.getElem?_modify]
    rw [if_pos h]
    cases hh : w.heap[a.block]? with
    | none => rfl
    | some o => cases o <;> rfl
  · rw [Array.getElem?_modify, if_neg h]
/-- A number is stored where one was. -/
theorem MR.set {w : World} {G : Nat → Prop} {v : Value} {us : List Value} {ns : List Nat} (h : MR w G v us ns) (hus : ∀ u ∈ us, ∃ A n c, u = .slice A n c) {p : Addr} {x : Int} (hp : w.cell? p = some (.int .u32 x)) (y : Int) : MR (w.setCell p (.int .u32 y)) G v us ns := by
  obtain ⟨⟨A, c, rfl, h0, hcap, hr⟩, h2, h3⟩ := h
  refine ⟨⟨A, c, rfl, h0, hcap, fun j u hu => ?_⟩, h2, fun i u n hu hn => ?_⟩
  · obtain ⟨ad, e, hg, hc, hf⟩ := hr j u hu
    refine ⟨ad, e, hg, ?_, by rw [frozen_set]; exact hf⟩
    rw [World.cell?_setCell_other]
    · exact hc
    · intro e2
      obtain ⟨A2, n2, c2, rfl⟩ := hus u (List.mem_of_getElem? hu)
      have hne : ad.add j = p := by first | exact e2 | exact e2.symm
      rw [hne, hp] at hc
      cases hc
  · obtain ⟨A2, c2, e, hq⟩ := h3 i u n hu hn
    refine ⟨A2, c2, e, fun j hj => ?_⟩
    obtain ⟨ad, x2, e1, hg, hc, hf⟩ := hq j hj
    by_cases he : ad.add j = p
    · exact ⟨ad, y, e1, hg, by rw [he]; exact World.cell?_setCell_same _ _ _ hp, by rw [frozen_set]; exact hf⟩
    · exact ⟨ad, x2, e1, hg, by rw [World.cell?_setCell_other _ _ _ _ (by first | exact he | exact fun e => he e.symm)]; exact hc, by rw [frozen_set]; exact hf⟩
theorem slice_one {A : Option Addr} {n c : Nat} : (Value.slice A n c).oneCell' = true := rfl
theorem Sl.one {w : World} {G : Nat → Prop} {v : Value} {us : List Value} (h : Sl w G v us) : v.oneCell' = true := by
  obtain ⟨A, c, rfl, _⟩ := h
  rfl
theorem below_grown1 {W w1 : World} {base k : Nat} {e : TypeId} {v : Value} {xs : List Value} (hb : base ≤ W.heap.size) (hrow : W.ownsRow base e 1 v k xs) (hgrow : W.grownBy w1 v.ownBlock) : Below base W w1 :=
  ⟨hgrow.os, hgrow.tape, hgrow.output, hgrow.size, fun j hj => hgrow.block j (by omega) (fun h => by
    rcases hrow.2 with ⟨rfl, _⟩ | ⟨g, cap, cur, rfl, hg, _⟩
    · cases h
    · have : j = g := by simpa [Value.ownBlock] using h
      omega)⟩
/-- append(own, source...), the source a slice that may be nil. -/
theorem wpList_append_sl {P : Program} {w : World} {ops : Array Oper} {rest : List Oper} {o : Oper} {a : Act} {Q : Exit → Act → World → Prop} (hgd : o.guard = none) (s x : Operand) (t : TypeId)
    (ho : o.op = .call { callee := .builtin .append, args := #[s, x], argTypes := #[t, t] })
    (base : Nat) (e : TypeId) (i : TypeInfo) (z : Value) (bytes : Nat) (ht : P.underlying t = some (.slice e)) (hi : P.info? e = some i) (hz : i.zero = some z) (hsize : i.size = 1) (hby : i.bytes = bytes) (hzs : z.cells.size = 1)
    (v : Value) (n : Nat) (xs : List Value) (hs : a.eval s = v) (hown : w.ownsRow base e 1 v n xs)
    (u : Value) (hx : a.eval x = u) (us : List Value) (G : Nat → Prop) (hr : Sl w G u us) (h1 : ∀ y ∈ us, y.oneCell' = true)
    (h63 : n + us.length ≤ maxLen) (hbytes : (n + us.length) * bytes ≤ 140737488355328) (hbase : base ≤ w.heap.size)
    (h : ∀ v' w', w'.ownsRow base e 1 v' (n + us.length) (xs ++ us) → Below base w w' → wpList P ops Q rest (a.put o.dst v') w') : wpList P ops Q (o :: rest) a w := by
  obtain ⟨A, c, rfl, h0, _, hr⟩ := hr
  rcases A with _ | ad
  · obtain rfl : us = [] := by
      rcases us with _ | ⟨y, us⟩
      · rfl
      · obtain ⟨_, e, _⟩ := hr 0 y (by simp)
        cases e
    obtain rfl := h0 rfl
    refine wpList_append_own_none hgd s x t ho base e i 1 ht hi v n xs hs hown hx (h v w ?_ (Below.refl _ _))
    simpa using hown
  · exact wpList_append_own _ hgd s x t ho base e i z 1 bytes ht hi hz hsize hby hzs (by decide) v n xs hs hown ad us.length c us hx (by omega) (fun j y hy => by
        obtain ⟨ad', e, _, hc, _⟩ := hr j y hy
        injection e with e
        subst e
        exact hc) h1 h63 hbytes hbase
      fun v' w' h2 h3 _ => h v' w' h2 (below_grown1 hbase hown h3)
end R
end Go.Proofs.YtnoohhpajoaaoaaDoor
