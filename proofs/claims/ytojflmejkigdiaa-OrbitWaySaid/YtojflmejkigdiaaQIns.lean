/-
  The specification's insert: where a window goes.
-/
import Derived.Test.YtojflmejkigdiaaQCkB
import Derived.Test.YtojflmejkigdiaaQPl
import Derived.Laws.AppendOwnNone
namespace Go.Proofs.Ytojflmejkigdiaa
open Go.RowKit Go.Shelf
namespace Q
open H
set_option linter.unusedVariables false
set_option linter.unusedSimpArgs false
set_option maxRecDepth 100000
/-- Behind which windows it goes. -/
def posN (T : List Wn) (x : Wn) : Nat → Nat
  | 0 => 0
  | i + 1 => match T[i]? with | some y => if bef y x then i + 1 else posN T x i | none => posN T x i
def ins (T : List Wn) (x : Wn) : List Wn := if T.any (fun y => meet y x) then T else T.take (posN T x T.length) ++ x :: T.drop (posN T x T.length)
theorem posN_le (T : List Wn) (x : Wn) : ∀ n, posN T x n ≤ n
  | 0 => Nat.le_refl _
  | i + 1 => by
    have ih := posN_le T x i
    show (match T[i]? with | some y => if bef y x then i + 1 else posN T x i | none => posN T x i) ≤ i + 1
    cases T[i]? with
    | none => exact Nat.le_succ_of_le ih
    | some y =>
      show (if bef y x then i + 1 else posN T x i) ≤ i + 1
      split
      · exact Nat.le_refl _
      · exact Nat.le_succ_of_le ih
theorem posN_step {T : List Wn} {x y : Wn} {i : Nat} (h : T[i]? = some y) : posN T x (i + 1) = if bef y x then i + 1 else posN T x i := by
  show (match T[i]? with | some y => if bef y x then i + 1 else posN T x i | none => posN T x i) = _
  rw [h]
theorem meet_no {T : List Wn} {x : Wn} (h : ∀ i y, i < T.length → T[i]? = some y → meet y x = false) : T.any (fun y => meet y x) = false := by
  rw [List.any_eq_false]
  intro y hy
  obtain ⟨i, hi⟩ := List.mem_iff_getElem?.1 hy
  rw [h i y (List.getElem?_eq_some_iff.1 hi).1 hi]
  simp
theorem meet_yes {T : List Wn} {x y : Wn} {i : Nat} (h : T[i]? = some y) (hm : meet y x = true) : T.any (fun y => meet y x) = true := by
  rw [List.any_eq_true]
  exact ⟨y, List.mem_of_getElem? h, hm⟩
def cells6 (x : Wn) : List Value := [.int .i64 x.kind, .int .i64 x.a, .int .i64 x.b, .int .i64 x.fr, .int .i64 x.un, .int .i64 x.rate]
def flat6 (L : List Wn) : List Value := L.flatMap cells6
theorem flat6_cons (x : Wn) (L : List Wn) : flat6 (x :: L) = cells6 x ++ flat6 L := List.flatMap_cons
theorem flat6_app (L M : List Wn) : flat6 (L ++ M) = flat6 L ++ flat6 M := List.flatMap_append
theorem flat6_len (L : List Wn) : (flat6 L).length = L.length * 6 := by
  induction L with
  | nil => rfl
  | cons x L ih => rw [flat6_cons, List.length_append, ih, List.length_cons]; show 6 + _ = _; omega
theorem flat6_one (L : List Wn) : ∀ u ∈ flat6 L, u.oneCell' = true := by
  intro u hu
  obtain ⟨x, _, hx⟩ := List.mem_flatMap.1 hu
  unfold cells6 at hx
  simp only [List.mem_cons, List.not_mem_nil, or_false] at hx
  rcases hx with rfl | rfl | rfl | rfl | rfl | rfl <;> rfl
theorem flat6_get : ∀ (L : List Wn) (j i : Nat) (x : Wn), L[j]? = some x → i < 6 → (flat6 L)[j * 6 + i]? = (cells6 x)[i]?
  | [], j, i, x, h, hi => by simp at h
  | y :: L, 0, i, x, h, hi => by
    obtain rfl : y = x := by simpa using h
    rw [flat6_cons, List.getElem?_append_left (by show 0 * 6 + i < 6; omega), Nat.zero_mul, Nat.zero_add]
  | y :: L, j + 1, i, x, h, hi => by
    rw [flat6_cons, List.getElem?_append_right (by show 6 ≤ (j + 1) * 6 + i; omega), show (j + 1) * 6 + i - (cells6 y).length = j * 6 + i from by show (j + 1) * 6 + i - 6 = _; omega]
    exact flat6_get L j i x (by simpa using h) hi
theorem infoW : (Try.prog.info? 31).map (fun i => (i.zero, i.size, i.bytes)) = some (some (.agg #[.int .i64 0, .int .i64 0, .int .i64 0, .int .i64 0, .int .i64 0, .int .i64 0]), 6, 48) := by kernel_rfl
/-- The row of a table in a block. -/
structure R6 (W : World) (g : Nat) (L : List Wn) : Prop where
  c : ∀ j u, (flat6 L)[j]? = some u → W.cell? ⟨g, j, none⟩ = some u
  hp : ∃ cs t, W.heap[g]? = some (.cells cs t (0, 0))
theorem R6.below {W W' : World} {g : Nat} {L : List Wn} (h : R6 W g L) (hB : Below W.heap.size W W') : R6 W' g L := ⟨fun j u hu => below_cell hB (h.c j u hu), h.hp.elim fun cs ⟨t, ht⟩ => ⟨cs, t, heap_keep hB ht⟩⟩
theorem R6.rds {W : World} {g : Nat} {L : List Wn} (h : R6 W g L) (hg : g < W.heap.size) : RdsWn W W.heap.size (some ⟨g, 0, none⟩) L := by
  intro j x hx
  refine ⟨_, rfl, hg, ?_⟩
  rw [ad_add]
  exact ⟨h.c _ _ (flat6_get L j 0 x hx (by omega)), h.c _ _ (flat6_get L j 1 x hx (by omega)), h.c _ _ (flat6_get L j 2 x hx (by omega)), h.c _ _ (flat6_get L j 3 x hx (by omega)), h.c _ _ (flat6_get L j 4 x hx (by omega)), h.c _ _ (flat6_get L j 5 x hx (by omega))⟩
theorem R6.take {W : World} {g : Nat} {L : List Wn} (h : R6 W g L) (p : Nat) : R6 W g (L.take p) := ⟨fun j u hu => h.c j u (by
  have hl := (List.getElem?_eq_some_iff.1 hu).1
  rw [← List.take_append_drop p L, flat6_app, List.getElem?_append_left hl]
  exact hu), h.hp⟩
theorem R6.drop {W : World} {g : Nat} {L : List Wn} (h : R6 W g L) {p : Nat} (hp : p ≤ L.length) : ∀ j u, (flat6 (L.drop p))[j]? = some u → W.cell? ⟨g, p * 6 + j, none⟩ = some u := fun j u hu => h.c _ u (by
  rw [← List.take_append_drop p L, flat6_app, List.getElem?_append_right (by rw [flat6_len, List.length_take]; omega), flat6_len, List.length_take, Nat.min_eq_left hp, Nat.add_sub_cancel_left]
  exact hu)
theorem flat6_snoc (L : List Wn) (x : Wn) : flat6 (L ++ [x]) = flat6 L ++ cells6 x := by
  rw [flat6_app]
  exact congrArg _ (List.append_nil _)
theorem cells6_one (x : Wn) : ∀ u ∈ cells6 x, u.oneCell' = true := fun u hu => flat6_one [x] u (by rw [flat6_cons]; exact List.mem_append_left _ hu)
theorem cells6_new (W : World) (x : Wn) : ∀ j u, (cells6 x)[j]? = some u → (W.alloc (.cells #[.int .i64 x.kind, .int .i64 x.a, .int .i64 x.b, .int .i64 x.fr, .int .i64 x.un, .int .i64 x.rate] 31)).cell? ((⟨W.heap.size, 0, none⟩ : Addr).add j) = some u := by
  intro j u hu
  rw [ad_add, cell_top]
  have h : (cells6 x).toArray[j]? = some u := by rw [List.getElem?_toArray]; exact hu
  exact h
theorem own_baseS {w : World} {b b' n sz : Nat} {e : TypeId} {v : Value} {xs : List Value} (h : w.ownsRow b e sz v n xs) (hb : b' ≤ b) : w.ownsRow b' e sz v n xs := by
  obtain ⟨hl, h | ⟨g, c, cur, h1, h2, h3⟩⟩ := h
  · exact ⟨hl, Or.inl h⟩
  · exact ⟨hl, Or.inr ⟨g, c, cur, h1, Nat.le_trans hb h2, h3⟩⟩
theorem own_r6 {W : World} {b n : Nat} {e : TypeId} {v : Value} {L : List Wn} (h : W.ownsRow b e 6 v n (flat6 L)) (hn : 0 < n) : ∃ g c, v = .slice (some ⟨g, 0, none⟩) n c ∧ n ≤ c ∧ c ≤ maxLen ∧ g < W.heap.size ∧ R6 W g L ∧ b ≤ g := by
  have hc := fun g (hg : v.ownBlock = some g) => h.cells (g := g) hg
  obtain ⟨hl, ⟨rfl, h0⟩ | ⟨g, c, cur, rfl, hg, hh, hnc, hcm, hcs, ht⟩⟩ := h
  · omega
  · refine ⟨g, c, rfl, hnc, hcm, ?_, ⟨fun j u hu => ?_, cur, e, hh⟩, hg⟩
    · by_cases h2 : g < W.heap.size
      · exact h2
      · rw [Array.getElem?_eq_none (by omega)] at hh; cases hh
    · have := hc g rfl j u hu
      rwa [ad_add] at this
set_option maxHeartbeats 8000000 in
theorem rinsert_some (T : List Wn) (x : Wn) (g0 cap : Nat) (w : World) (hlen : T.length ≤ 60) (hcap : T.length ≤ cap) (hcap2 : cap ≤ maxLen) (hg0 : g0 < w.heap.size) (hR6 : R6 w g0 T) :
    Calls Try.prog 43 #[.slice (some ⟨g0, 0, none⟩) T.length cap, x.v] w fun e w' => ∃ g c, e = .returned (.slice (some ⟨g, 0, none⟩) (ins T x).length c) ∧ (ins T x).length ≤ c ∧ c ≤ maxLen ∧ g < w'.heap.size ∧ R6 w' g (ins T x) ∧ Below w.heap.size w w' ∧ (g = g0 ∨ w.heap.size ≤ g) := by
  have hR := hR6.rds hg0
  obtain ⟨ad, had0⟩ : ∃ ad : Addr, ad = ⟨g0, 0, none⟩ := ⟨_, rfl⟩
  rw [← had0] at hR ⊢
  have HAD := Lib.hid had0
  have HR6 := Lib.hid hR6
  have HG0 := Lib.hid hg0
  have hB : w.heap.size ≤ w.heap.size := Nat.le_refl _
  have HTK := Lib.hid (fun p => hR6.take p)
  have HN1 : Hid (∀ (p : Nat) W, Below w.heap.size w W → ∀ j u, (flat6 (T.take p))[j]? = some u → W.cell? (ad.add j) = some u) := Lib.hid (fun p W hW j u hu => by rw [had0, ad_add]; exact ((hR6.take p).below hW).c j u hu)
  have HN2 : Hid (∀ (p : Nat) W, p ≤ T.length → Below w.heap.size w W → ∀ j u, (flat6 (T.drop p))[j]? = some u → W.cell? ((ad.add (p * 6)).add j) = some u) := Lib.hid (fun p W hp hW j u hu => by
    rw [had0, ad_add]
    have h := below_cell hW (hR6.drop hp j u hu)
    rw [show ((⟨g0, p * 6, none⟩ : Addr).add j) = ⟨g0, p * 6 + j, none⟩ by unfold Addr.add; split <;> simp_all]
    exact h)
  clear had0 hR6 hg0
  have HBE := Lib.hid (fun v x W => rbef_any v x W)
  have HME := Lib.hid (fun v x W => rmeet_any v x W)
  have HR := Lib.hid hR
  have HGET := Lib.hid (fun k (hk : k < T.length) => (⟨T[k], List.getElem?_eq_getElem hk⟩ : ∃ x, T[k]? = some x))
  have HYES : Hid (∀ i y, T[i]? = some y → meet y x = true → ins T x = T) := Lib.hid (fun i y h1 h2 => by unfold ins; rw [meet_yes h1 h2]; rfl)
  have HNO : Hid ((∀ i y, i < T.length → T[i]? = some y → meet y x = false) → ins T x = T.take (posN T x T.length) ++ x :: T.drop (posN T x T.length)) := Lib.hid (fun h => by unfold ins; rw [meet_no h]; rfl)
  have HLT0 : Hid (T.length = T.length) := Lib.hid rfl
  clear hR
  generalize hl : T.length = len at *
  have HL := Lib.hid hl
  clear hl HLT0
  have N0 := Lib.hid (Wb.new w x).bx
  go_enter Try.func43, Try.ntmps43
  go_wp2_with fail
  go_loopg [5, 6] len (fun g pv i wr => ∃ k : Nat, k + g = len ∧ i = .int .i64 (k : Nat) ∧ pv = .int .i64 (posN T x k : Nat) ∧ Hid (∀ j y, j < k → T[j]? = some y → meet y x = false) ∧ Bx wr w.heap.size x ∧ Below w.heap.size w wr)
  case atStart => exact ⟨0, Nat.zero_add _, rfl, rfl, Lib.hid (fun j y hj => absurd hj (Nat.not_lt_zero _)), N0.out, bel1 _ _⟩
  case round =>
    obtain ⟨k, hg, rfl, rfl, HT, hbx, hB2⟩ := hrel
    have BEL := Lib.hid hB2
    have BX := Lib.hid hbx
    have HG := Lib.hid hg
    have hkn : k ≤ len := by omega
    have hpk := posN_le T x k
    clear hg hB2
    by_cases hlt : k < len
    · have HLT := Lib.hid hlt
      have hki : (k : Int) < (len : Int) := by omega
      obtain ⟨y, hy⟩ := HGET.out k hlt
      obtain ⟨ad1, hA1, had, hr⟩ := HR.out.below (BEL.out.mono hB) k y hy
      obtain rfl := Option.some.inj hA1
      have c0 := hr.c0
      have c1 := hr.c1
      have c2 := hr.c2
      have c3 := hr.c3
      have c4 := hr.c4
      have c5 := hr.c5
      have b0 := hbx.c0
      have b1 := hbx.c1
      have b2 := hbx.c2
      have b3 := hbx.c3
      have b4 := hbx.c4
      have b5 := hbx.c5
      have HY := Lib.hid hy
      have HPS := Lib.hid (posN_step (x := x) hy)
      have HMC := Lib.hid (fun W => HME.out y x W)
      have HBC := Lib.hid (fun W => HBE.out y x W)
      clear hr hbx hy had hlt
      generalize hp : posN T x k = p at *
      cases hm : meet y x with
      | true =>
        rw [hm] at HMC
        have HV := Lib.hid (HYES.out k y HY.out hm)
        clear hm
        go_wp2_with fail
        go_region_held3 (fun W => W.cell? (ad.add (k * 6)) = some (.int .i64 y.kind) ∧ W.cell? ⟨(ad.add (k * 6)).block, (ad.add (k * 6)).off + 1, none⟩ = some (.int .i64 y.a) ∧ W.cell? ⟨(ad.add (k * 6)).block, (ad.add (k * 6)).off + 2, none⟩ = some (.int .i64 y.b) ∧ W.cell? ⟨(ad.add (k * 6)).block, (ad.add (k * 6)).off + 3, none⟩ = some (.int .i64 y.fr) ∧ W.cell? ⟨(ad.add (k * 6)).block, (ad.add (k * 6)).off + 4, none⟩ = some (.int .i64 y.un) ∧ W.cell? ⟨(ad.add (k * 6)).block, (ad.add (k * 6)).off + 5, none⟩ = some (.int .i64 y.rate) ∧ W.cell? ⟨w.heap.size, 0, none⟩ = some (.int .i64 x.kind) ∧ W.cell? ⟨w.heap.size, 1, none⟩ = some (.int .i64 x.a) ∧ W.cell? ⟨w.heap.size, 2, none⟩ = some (.int .i64 x.b) ∧ W.cell? ⟨w.heap.size, 3, none⟩ = some (.int .i64 x.fr) ∧ W.cell? ⟨w.heap.size, 4, none⟩ = some (.int .i64 x.un) ∧ W.cell? ⟨w.heap.size, 5, none⟩ = some (.int .i64 x.rate)) (with_reducible (first | exact ⟨cell_drw c0, cell_drw c1, cell_drw c2, cell_drw c3, cell_drw c4, cell_drw c5, cell_drw b0, cell_drw b1, cell_drw b2, cell_drw b3, cell_drw b4, cell_drw b5⟩ | exact ⟨below_cell hB3 (cell_drw c0), below_cell hB3 (cell_drw c1), below_cell hB3 (cell_drw c2), below_cell hB3 (cell_drw c3), below_cell hB3 (cell_drw c4), below_cell hB3 (cell_drw c5), below_cell hB3 (cell_drw b0), below_cell hB3 (cell_drw b1), below_cell hB3 (cell_drw b2), below_cell hB3 (cell_drw b3), below_cell hB3 (cell_drw b4), below_cell hB3 (cell_drw b5)⟩))
          ((go_at_call 40; with_reducible refine (HMC.out _).mono ?_; rintro e w3 ⟨rfl, hB3⟩))
        all_goals go_wp2_with fail
        all_goals go_ret
        exact ⟨g0, cap, by rw [HV.out, HL.out, ← HAD.out]; rfl, by rw [HV.out, HL.out]; exact hcap, hcap2, by have := (BEL.out.trans ((bt (below_drew _) hB3).mono BEL.out.size)).size; have := HG0.out; omega, by rw [HV.out]; exact HR6.out.below (BEL.out.trans ((bt (below_drew _) hB3).mono BEL.out.size)), BEL.out.trans ((bt (below_drew _) hB3).mono BEL.out.size), .inl rfl⟩
      | false =>
        rw [hm] at HMC
        have HMF := Lib.hid hm
        clear hm
        go_wp2_with fail
        go_region_held3 (fun W => W.cell? (ad.add (k * 6)) = some (.int .i64 y.kind) ∧ W.cell? ⟨(ad.add (k * 6)).block, (ad.add (k * 6)).off + 1, none⟩ = some (.int .i64 y.a) ∧ W.cell? ⟨(ad.add (k * 6)).block, (ad.add (k * 6)).off + 2, none⟩ = some (.int .i64 y.b) ∧ W.cell? ⟨(ad.add (k * 6)).block, (ad.add (k * 6)).off + 3, none⟩ = some (.int .i64 y.fr) ∧ W.cell? ⟨(ad.add (k * 6)).block, (ad.add (k * 6)).off + 4, none⟩ = some (.int .i64 y.un) ∧ W.cell? ⟨(ad.add (k * 6)).block, (ad.add (k * 6)).off + 5, none⟩ = some (.int .i64 y.rate) ∧ W.cell? ⟨w.heap.size, 0, none⟩ = some (.int .i64 x.kind) ∧ W.cell? ⟨w.heap.size, 1, none⟩ = some (.int .i64 x.a) ∧ W.cell? ⟨w.heap.size, 2, none⟩ = some (.int .i64 x.b) ∧ W.cell? ⟨w.heap.size, 3, none⟩ = some (.int .i64 x.fr) ∧ W.cell? ⟨w.heap.size, 4, none⟩ = some (.int .i64 x.un) ∧ W.cell? ⟨w.heap.size, 5, none⟩ = some (.int .i64 x.rate)) (with_reducible (first | exact ⟨cell_drw c0, cell_drw c1, cell_drw c2, cell_drw c3, cell_drw c4, cell_drw c5, cell_drw b0, cell_drw b1, cell_drw b2, cell_drw b3, cell_drw b4, cell_drw b5⟩ | exact ⟨below_cell hB3 (cell_drw c0), below_cell hB3 (cell_drw c1), below_cell hB3 (cell_drw c2), below_cell hB3 (cell_drw c3), below_cell hB3 (cell_drw c4), below_cell hB3 (cell_drw c5), below_cell hB3 (cell_drw b0), below_cell hB3 (cell_drw b1), below_cell hB3 (cell_drw b2), below_cell hB3 (cell_drw b3), below_cell hB3 (cell_drw b4), below_cell hB3 (cell_drw b5)⟩))
          ((go_at_call 40; with_reducible refine (HMC.out _).mono ?_; rintro e w3 ⟨rfl, hB3⟩))
        have HB4 := Lib.hid (bt (below_drew wr) hB3)
        have e0 := below_cell HB4.out c0
        have e1 := below_cell HB4.out c1
        have e2 := below_cell HB4.out c2
        have e3 := below_cell HB4.out c3
        have e4 := below_cell HB4.out c4
        have e5 := below_cell HB4.out c5
        have f0 := below_cell HB4.out b0
        have f1 := below_cell HB4.out b1
        have f2 := below_cell HB4.out b2
        have f3 := below_cell HB4.out b3
        have f4 := below_cell HB4.out b4
        have f5 := below_cell HB4.out b5
        clear c0 c1 c2 c3 c4 c5 b0 b1 b2 b3 b4 b5
        cases hb : bef y x with
        | true =>
          rw [hb] at HBC HPS
          clear hb
          go_wp2_with fail
          go_region_held3 (fun W => W.cell? (ad.add (k * 6)) = some (.int .i64 y.kind) ∧ W.cell? ⟨(ad.add (k * 6)).block, (ad.add (k * 6)).off + 1, none⟩ = some (.int .i64 y.a) ∧ W.cell? ⟨(ad.add (k * 6)).block, (ad.add (k * 6)).off + 2, none⟩ = some (.int .i64 y.b) ∧ W.cell? ⟨(ad.add (k * 6)).block, (ad.add (k * 6)).off + 3, none⟩ = some (.int .i64 y.fr) ∧ W.cell? ⟨(ad.add (k * 6)).block, (ad.add (k * 6)).off + 4, none⟩ = some (.int .i64 y.un) ∧ W.cell? ⟨(ad.add (k * 6)).block, (ad.add (k * 6)).off + 5, none⟩ = some (.int .i64 y.rate) ∧ W.cell? ⟨w.heap.size, 0, none⟩ = some (.int .i64 x.kind) ∧ W.cell? ⟨w.heap.size, 1, none⟩ = some (.int .i64 x.a) ∧ W.cell? ⟨w.heap.size, 2, none⟩ = some (.int .i64 x.b) ∧ W.cell? ⟨w.heap.size, 3, none⟩ = some (.int .i64 x.fr) ∧ W.cell? ⟨w.heap.size, 4, none⟩ = some (.int .i64 x.un) ∧ W.cell? ⟨w.heap.size, 5, none⟩ = some (.int .i64 x.rate)) (with_reducible (first | exact ⟨cell_drw e0, cell_drw e1, cell_drw e2, cell_drw e3, cell_drw e4, cell_drw e5, cell_drw f0, cell_drw f1, cell_drw f2, cell_drw f3, cell_drw f4, cell_drw f5⟩ | exact ⟨below_cell hB5 (cell_drw e0), below_cell hB5 (cell_drw e1), below_cell hB5 (cell_drw e2), below_cell hB5 (cell_drw e3), below_cell hB5 (cell_drw e4), below_cell hB5 (cell_drw e5), below_cell hB5 (cell_drw f0), below_cell hB5 (cell_drw f1), below_cell hB5 (cell_drw f2), below_cell hB5 (cell_drw f3), below_cell hB5 (cell_drw f4), below_cell hB5 (cell_drw f5)⟩))
            ((go_at_call 39; with_reducible refine (HBC.out _).mono ?_; rintro e w5 ⟨rfl, hB5⟩))
          go_wp2_with fail
          go_roundg (gk - 1)
          case measure => have := HG.out; have := HLT.out; omega
          case rel =>
            have HB6 := bt HB4.out (bt (below_drew _) hB5)
            exact ⟨k + 1, by have := HG.out; have := HLT.out; omega, by go_num, by rw [HPS.out]; go_num, Lib.hid (fun j z hj hz => by
              rcases Nat.lt_or_ge j k with h | h
              · exact HT.out j z h hz
              · obtain rfl : j = k := by omega
                rw [HY.out] at hz
                obtain rfl := Option.some.inj hz
                exact HMF.out), BX.out.call HB6, BEL.out.trans (HB6.mono BEL.out.size)⟩
        | false =>
          rw [hb] at HBC HPS
          clear hb
          go_wp2_with fail
          go_region_held3 (fun W => W.cell? (ad.add (k * 6)) = some (.int .i64 y.kind) ∧ W.cell? ⟨(ad.add (k * 6)).block, (ad.add (k * 6)).off + 1, none⟩ = some (.int .i64 y.a) ∧ W.cell? ⟨(ad.add (k * 6)).block, (ad.add (k * 6)).off + 2, none⟩ = some (.int .i64 y.b) ∧ W.cell? ⟨(ad.add (k * 6)).block, (ad.add (k * 6)).off + 3, none⟩ = some (.int .i64 y.fr) ∧ W.cell? ⟨(ad.add (k * 6)).block, (ad.add (k * 6)).off + 4, none⟩ = some (.int .i64 y.un) ∧ W.cell? ⟨(ad.add (k * 6)).block, (ad.add (k * 6)).off + 5, none⟩ = some (.int .i64 y.rate) ∧ W.cell? ⟨w.heap.size, 0, none⟩ = some (.int .i64 x.kind) ∧ W.cell? ⟨w.heap.size, 1, none⟩ = some (.int .i64 x.a) ∧ W.cell? ⟨w.heap.size, 2, none⟩ = some (.int .i64 x.b) ∧ W.cell? ⟨w.heap.size, 3, none⟩ = some (.int .i64 x.fr) ∧ W.cell? ⟨w.heap.size, 4, none⟩ = some (.int .i64 x.un) ∧ W.cell? ⟨w.heap.size, 5, none⟩ = some (.int .i64 x.rate)) (with_reducible (first | exact ⟨cell_drw e0, cell_drw e1, cell_drw e2, cell_drw e3, cell_drw e4, cell_drw e5, cell_drw f0, cell_drw f1, cell_drw f2, cell_drw f3, cell_drw f4, cell_drw f5⟩ | exact ⟨below_cell hB5 (cell_drw e0), below_cell hB5 (cell_drw e1), below_cell hB5 (cell_drw e2), below_cell hB5 (cell_drw e3), below_cell hB5 (cell_drw e4), below_cell hB5 (cell_drw e5), below_cell hB5 (cell_drw f0), below_cell hB5 (cell_drw f1), below_cell hB5 (cell_drw f2), below_cell hB5 (cell_drw f3), below_cell hB5 (cell_drw f4), below_cell hB5 (cell_drw f5)⟩))
            ((go_at_call 39; with_reducible refine (HBC.out _).mono ?_; rintro e w5 ⟨rfl, hB5⟩))
          go_wp2_with fail
          go_roundg (gk - 1)
          case measure => have := HG.out; have := HLT.out; omega
          case rel =>
            have HB6 := bt HB4.out (bt (below_drew _) hB5)
            exact ⟨k + 1, by have := HG.out; have := HLT.out; omega, by go_num, by rw [HPS.out]; rfl, Lib.hid (fun j z hj hz => by
              rcases Nat.lt_or_ge j k with h | h
              · exact HT.out j z h hz
              · obtain rfl : j = k := by omega
                rw [HY.out] at hz
                obtain rfl := Option.some.inj hz
                exact HMF.out), BX.out.call HB6, BEL.out.trans (HB6.mono BEL.out.size)⟩
    · obtain rfl : k = len := by omega
      have HE := Lib.hid (HNO.out HT.out)
      clear hlt
      have hpc : posN T x k ≤ cap := by omega
      have hdl : (T.drop (posN T x k)).length = k - posN T x k := by rw [List.length_drop, HL.out]
      have htl : (T.take (posN T x k)).length = posN T x k := by rw [List.length_take, HL.out]; omega
      have HTP := Lib.hid (HTK.out (posN T x k))
      have HTD := Lib.hid (HR6.out.drop (p := posN T x k) (by rw [HL.out]; exact hpk))
      have HDL := Lib.hid hdl
      have HTL := Lib.hid htl
      clear hdl htl
      generalize hp : posN T x k = p at *
      clear hp
      have i1 : (p : Int) ≤ (k : Int) := by omega
      have i2 : (p : Int) ≤ (cap : Int) := by omega
      have i3 : (k : Int) ≤ (cap : Int) := by omega
      have b0 := BX.out.c0
      have b1 := BX.out.c1
      have b2 := BX.out.c2
      have b3 := BX.out.c3
      have b4 := BX.out.c4
      have b5 := BX.out.c5
      obtain ⟨i0, hi, hz0, hz1, hz2⟩ := info_parts infoW
      go_upto_region 10 with fail
      refine wp_region_held_drew (S := fun W => W.cell? ⟨w.heap.size, 0, none⟩ = some (.int .i64 x.kind) ∧ W.cell? ⟨w.heap.size, 1, none⟩ = some (.int .i64 x.a) ∧ W.cell? ⟨w.heap.size, 2, none⟩ = some (.int .i64 x.b) ∧ W.cell? ⟨w.heap.size, 3, none⟩ = some (.int .i64 x.fr) ∧ W.cell? ⟨w.heap.size, 4, none⟩ = some (.int .i64 x.un) ∧ W.cell? ⟨w.heap.size, 5, none⟩ = some (.int .i64 x.rate)) (by kernel_rfl) ⟨cell_drw b0, cell_drw b1, cell_drw b2, cell_drw b3, cell_drw b4, cell_drw b5⟩ (fun hHeld => ?_)
      refine wpAnyH_take (i := 0) (oi := { dst := some 29, op := _, type := _, pos := _, after := _, guard := _ }) (v := ?_) rfl (by kernel_rfl) (by kernel_rfl) (by kernel_rfl) (fun _ _ _ h => h) (Or.inl ⟨by rfl, ?_⟩) (by assumption) ?_
      rotate_left
      · (intro w hSw; (try dsimp only at hSw); go_simp)
        first | done | with_reducible rfl
      try simp only [Act.put, List.setIfInBounds_toArray, List.set_cons_zero, List.set_cons_succ]
      refine wpAnyH_take (i := 1) (oi := { dst := some 30, op := _, type := _, pos := _, after := _, guard := _ }) (v := ?_) rfl (by kernel_rfl) (by kernel_rfl) (by kernel_rfl) (fun _ _ _ h => h) (Or.inl ⟨by rfl, ?_⟩) (by assumption) ?_
      rotate_left
      · (intro w hSw; (try dsimp only at hSw); go_simp)
        first | done | with_reducible rfl
      try simp only [Act.put, List.setIfInBounds_toArray, List.set_cons_zero, List.set_cons_succ]
      refine wpAnyH_take (i := 2) (oi := { dst := some 31, op := _, type := _, pos := _, after := _, guard := _ }) (v := ?_) rfl (by kernel_rfl) (by kernel_rfl) (by kernel_rfl) (fun _ _ _ h => h) (Or.inl ⟨by rfl, ?_⟩) (by assumption) ?_
      rotate_left
      · (intro w hSw; (try dsimp only at hSw); go_simp)
        first | done | with_reducible rfl
      try simp only [Act.put, List.setIfInBounds_toArray, List.set_cons_zero, List.set_cons_succ]
      refine wpAnyH_take (i := 3) (oi := { dst := some 32, op := _, type := _, pos := _, after := _, guard := _ }) (v := ?_) rfl (by kernel_rfl) (by kernel_rfl) (by kernel_rfl) (fun _ _ _ h => h) (Or.inl ⟨by rfl, ?_⟩) (by assumption) ?_
      rotate_left
      · (intro w hSw; (try dsimp only at hSw); go_simp)
        first | done | with_reducible rfl
      try simp only [Act.put, List.setIfInBounds_toArray, List.set_cons_zero, List.set_cons_succ]
      refine wpAnyH_take (i := 5) (oi := { dst := some 34, op := _, type := _, pos := _, after := _, guard := _ }) (v := ?_) rfl (by kernel_rfl) (by kernel_rfl) (by kernel_rfl) (fun _ _ _ h => h) (Or.inl ⟨by rfl, ?_⟩) (by assumption) ?_
      rotate_left
      · (intro w hSw; (try dsimp only at hSw); go_simp)
        first | done | with_reducible rfl
      try simp only [Act.put, List.setIfInBounds_toArray, List.set_cons_zero, List.set_cons_succ]
      refine wpAnyH_ready (rs := [4, 6]) (by kernel_rfl) (by simp) ?_
      refine AllReadyH.cons (o := { dst := some 33, op := _, type := _, pos := _, after := _, guard := _ }) rfl (fun K hK => ?_) (AllReadyH.cons (o := { dst := some 35, op := _, type := _, pos := _, after := _, guard := _ }) rfl (fun K hK => ?_) AllReadyH.nil)
      · skip
        refine wp_append_own _ (.tmp 29) (.tmp 32) 22 rfl wr.heap.size 31 i0 (.agg #[.int .i64 0, .int .i64 0, .int .i64 0, .int .i64 0, .int .i64 0, .int .i64 0]) 6 48 Try.underlying22 hi hz0 hz1 hz2 rfl (by decide) (.slice none 0 0) (0) ([]) rfl (World.ownsRow_nil _ _ _ _) ad p cap (flat6 (T.take p)) rfl (by rw [flat6_len, HTL.out]) (HN1.out _ _ BEL.out.drew) (flat6_one _) (by unfold maxLen; omega) (by omega) (Nat.le_refl _) ?_
        intro v1 w1 ho1 hg1 _
        have HW1 : Hid (Below wr.heap.size wr w1) := Lib.hid ((below_drew wr).trans (below_grown2 (w1 := w1) (Nat.le_refl _) (World.ownsRow_nil _ wr.heap.size 31 6) hg1))
        have HO1 := Lib.hid ho1
        clear ho1 hg1
        refine hK.out _ _ ⟨below_cell HW1.out b0, below_cell HW1.out b1, below_cell HW1.out b2, below_cell HW1.out b3, below_cell HW1.out b4, below_cell HW1.out b5⟩ (fun hH2 => ?_)
        clear hK K hHeld
        rename _ => hHeld
        try simp only [Act.put, List.setIfInBounds_toArray, List.set_cons_zero, List.set_cons_succ]
        refine wpAnyH_ready (rs := [6]) (by kernel_rfl) (by simp) ?_
        refine AllReadyH.cons (o := { dst := some 35, op := _, type := _, pos := _, after := _, guard := _ }) rfl (fun K hK => ?_) AllReadyH.nil
        go_simp
        refine hK.out _ _ ⟨cell_under _ (below_cell HW1.out b0), cell_under _ (below_cell HW1.out b1), cell_under _ (below_cell HW1.out b2), cell_under _ (below_cell HW1.out b3), cell_under _ (below_cell HW1.out b4), cell_under _ (below_cell HW1.out b5)⟩ (fun hH2 => ?_)
        clear hK K hHeld
        rename _ => hHeld
        try simp only [Act.put, List.setIfInBounds_toArray, List.set_cons_zero, List.set_cons_succ]
        refine wpAnyH_ready (rs := [7]) (by kernel_rfl) (by simp) ?_
        refine AllReadyH.cons (o := { dst := some 36, op := _, type := _, pos := _, after := _, guard := _ }) rfl (fun K hK => ?_) AllReadyH.nil
        refine wp_append_own _ (.tmp 33) (.tmp 35) 22 rfl wr.heap.size 31 i0 (.agg #[.int .i64 0, .int .i64 0, .int .i64 0, .int .i64 0, .int .i64 0, .int .i64 0]) 6 48 Try.underlying22 hi hz0 hz1 hz2 rfl (by decide) v1 (0 + p) ([] ++ flat6 (T.take p)) rfl (ownsRow_below HO1.out (bel1 _ _)) ⟨w1.heap.size, 0, none⟩ 1 1 (cells6 x) rfl (rfl) (cells6_new w1 x) (cells6_one x) (by unfold maxLen; omega) (by omega) (by have := HW1.out.size; simp; omega) ?_
        intro v2 w2 ho2 hg2 _
        have HW2 : Hid (Below wr.heap.size wr w2) := Lib.hid ((HW1.out.trans ((bel1 w1 _).mono HW1.out.size)).trans (below_grown2 (by have := HW1.out.size; simp; omega) (ownsRow_below HO1.out (bel1 _ _)) hg2))
        have HO2 : Hid (w2.ownsRow wr.heap.size 31 6 v2 (p + 1) (flat6 (T.take p ++ [x]))) := Lib.hid (by have h := own_baseS ho2 (Nat.le_refl _); rw [Nat.zero_add, List.nil_append] at h; rw [flat6_snoc]; exact h)
        clear ho2 hg2
        refine hK.out _ _ ⟨below_cell HW2.out b0, below_cell HW2.out b1, below_cell HW2.out b2, below_cell HW2.out b3, below_cell HW2.out b4, below_cell HW2.out b5⟩ (fun hH2 => ?_)
        clear hK K hHeld
        rename _ => hHeld
        try simp only [Act.put, List.setIfInBounds_toArray, List.set_cons_zero, List.set_cons_succ]
        refine wpAnyH_take (i := 8) (oi := { dst := some 7, op := _, type := _, pos := _, after := _, guard := _ }) (v := ?_) rfl (by kernel_rfl) (by kernel_rfl) (by kernel_rfl) (fun _ _ _ h => h) (Or.inl ⟨by rfl, ?_⟩) (by assumption) ?_
        rotate_left
        · (intro w hSw; (try dsimp only at hSw); go_simp)
          first | done | with_reducible rfl
        try simp only [Act.put, List.setIfInBounds_toArray, List.set_cons_zero, List.set_cons_succ]
        refine wpAnyH_done (by kernel_rfl) ?_ _
        have hsz2 : wr.heap.size ≤ w2.heap.size := HW2.out.size
        have BW2 := Lib.hid (BEL.out.trans (HW2.out.mono BEL.out.size))
        clear b0 b1 b2 b3 b4 b5
        rcases Nat.lt_or_ge p cap with hq | hq
        · have q1 : ¬ p = cap := by omega
          have q2 : ¬ cap = p := by omega
          have q3 : (p : Int) < (cap : Int) := by omega
          have q4 : ¬ cap - p = 0 := by omega
          have q5 : ¬ cap ≤ p := by omega
          go_wp2_with (at_builtin; refine wpList_append_own _ rfl (.tmp 37) (.tmp 40) 22 rfl wr.heap.size 31 i0 (.agg #[.int .i64 0, .int .i64 0, .int .i64 0, .int .i64 0, .int .i64 0, .int .i64 0]) 6 48 Try.underlying22 hi hz0 hz1 hz2 rfl (by decide) v2 (p + 1) (flat6 (T.take p ++ [x])) rfl HO2.out (ad.add (p * 6)) (k - p) (cap - p) (flat6 (T.drop p)) rfl (by rw [flat6_len, HDL.out]) (HN2.out _ _ hpk BW2.out) (flat6_one _) (by unfold maxLen; omega) (by omega) hsz2 ?_; intro v3 w3 ho3 hg3 _; have HO3 := Lib.hid ho3; have HB3 := Lib.hid (below_grown2 hsz2 HO2.out hg3); clear ho3 hg3)
          go_ret
          have hn : (ins T x).length = p + 1 + (k - p) := by rw [HE.out, List.length_append, List.length_cons, HTL.out, HDL.out]; omega
          have hfl : flat6 (T.take p ++ [x]) ++ flat6 (T.drop p) = flat6 (ins T x) := by rw [HE.out, ← flat6_app, List.append_assoc]; rfl
          have h3 := HO3.out
          rw [hfl] at h3
          obtain ⟨g, c, rfl, hnc, hcm, hg, hr, hbg⟩ := own_r6 h3 (by omega)
          exact ⟨g, c, by rw [hn]; rfl, by omega, hcm, hg, hr, BW2.out.trans (HB3.out.mono BEL.out.size), .inr (Nat.le_trans BEL.out.size hbg)⟩
        · obtain rfl : p = k := by omega
          obtain rfl : p = cap := by omega
          have HD0 : Hid (T.drop p = []) := Lib.hid (List.eq_nil_of_length_eq_zero (by rw [HDL.out]; omega))
          go_wp2_with (at_builtin; refine wpList_append_own _ rfl (.tmp 37) (.tmp 40) 22 rfl wr.heap.size 31 i0 (.agg #[.int .i64 0, .int .i64 0, .int .i64 0, .int .i64 0, .int .i64 0, .int .i64 0]) 6 48 Try.underlying22 hi hz0 hz1 hz2 rfl (by decide) v2 (p + 1) (flat6 (T.take p ++ [x])) rfl HO2.out ad 0 0 [] rfl (rfl) (fun j u hu => by simp at hu) (fun u hu => by simp at hu) (by unfold maxLen; omega) (by omega) hsz2 ?_; intro v3 w3 ho3 hg3 _; have HO3 := Lib.hid ho3; have HB3 := Lib.hid (below_grown2 hsz2 HO2.out hg3); clear ho3 hg3)
          go_ret
          have hn : (ins T x).length = p + 1 + 0 := by rw [HE.out, List.length_append, List.length_cons, HTL.out, HDL.out]; omega
          have hfl : flat6 (T.take p ++ [x]) ++ [] = flat6 (ins T x) := by rw [HE.out, HD0.out, List.append_nil]
          have h3 := HO3.out
          rw [hfl] at h3
          obtain ⟨g, c, rfl, hnc, hcm, hg, hr, hbg⟩ := own_r6 h3 (by omega)
          exact ⟨g, c, by rw [hn]; rfl, by omega, hcm, hg, hr, BW2.out.trans (HB3.out.mono BEL.out.size), .inr (Nat.le_trans BEL.out.size hbg)⟩
      · go_simp
        refine hK.out _ _ ⟨cell_under_drew _ b0, cell_under_drew _ b1, cell_under_drew _ b2, cell_under_drew _ b3, cell_under_drew _ b4, cell_under_drew _ b5⟩ (fun hH2 => ?_)
        clear hK K hHeld
        rename _ => hHeld
        try simp only [Act.put, List.setIfInBounds_toArray, List.set_cons_zero, List.set_cons_succ]
        refine wpAnyH_ready (rs := [4]) (by kernel_rfl) (by simp) ?_
        refine AllReadyH.cons (o := { dst := some 33, op := _, type := _, pos := _, after := _, guard := _ }) rfl (fun K hK => ?_) AllReadyH.nil
        refine wp_append_own _ (.tmp 29) (.tmp 32) 22 rfl (wr.heap.size + 1) 31 i0 (.agg #[.int .i64 0, .int .i64 0, .int .i64 0, .int .i64 0, .int .i64 0, .int .i64 0]) 6 48 Try.underlying22 hi hz0 hz1 hz2 rfl (by decide) (.slice none 0 0) (0) ([]) rfl (World.ownsRow_nil _ _ _ _) ad p cap (flat6 (T.take p)) rfl (by rw [flat6_len, HTL.out]) (HN1.out _ _ (BEL.out.alloc BEL.out.size _).drew) (flat6_one _) (by unfold maxLen; omega) (by omega) (by simp) ?_
        intro v1 w1 ho1 hg1 _
        have HW1 : Hid (Below (wr.heap.size + 1) (wr.alloc (.cells #[.int .i64 x.kind, .int .i64 x.a, .int .i64 x.b, .int .i64 x.fr, .int .i64 x.un, .int .i64 x.rate] 31)).drew w1) := Lib.hid (below_grown2 (by simp) (World.ownsRow_nil _ (wr.heap.size + 1) 31 6) hg1)
        have HO1 := Lib.hid ho1
        have hs1 : wr.heap.size + 1 ≤ w1.heap.size := Nat.le_trans (by simp) HW1.out.size
        have HW3 : Hid (Below wr.heap.size wr w1) := Lib.hid ((((bel1 wr (.cells #[.int .i64 x.kind, .int .i64 x.a, .int .i64 x.b, .int .i64 x.fr, .int .i64 x.un, .int .i64 x.rate] 31)).drew)).trans (HW1.out.mono (Nat.le_succ _)))
        have HNW : Hid (∀ j u, (cells6 x)[j]? = some u → w1.cell? ((⟨wr.heap.size, 0, none⟩ : Addr).add j) = some u) := Lib.hid (fun j u hu => (HW1.out.cell (by rw [ad_add]; exact Nat.lt_succ_self _)).trans (cells6_new wr x j u hu))
        clear ho1 hg1
        refine hK.out _ _ ⟨below_cell HW3.out b0, below_cell HW3.out b1, below_cell HW3.out b2, below_cell HW3.out b3, below_cell HW3.out b4, below_cell HW3.out b5⟩ (fun hH2 => ?_)
        clear hK K hHeld
        rename _ => hHeld
        try simp only [Act.put, List.setIfInBounds_toArray, List.set_cons_zero, List.set_cons_succ]
        refine wpAnyH_ready (rs := [7]) (by kernel_rfl) (by simp) ?_
        refine AllReadyH.cons (o := { dst := some 36, op := _, type := _, pos := _, after := _, guard := _ }) rfl (fun K hK => ?_) AllReadyH.nil
        refine wp_append_own _ (.tmp 33) (.tmp 35) 22 rfl (wr.heap.size + 1) 31 i0 (.agg #[.int .i64 0, .int .i64 0, .int .i64 0, .int .i64 0, .int .i64 0, .int .i64 0]) 6 48 Try.underlying22 hi hz0 hz1 hz2 rfl (by decide) v1 (0 + p) ([] ++ flat6 (T.take p)) rfl (HO1.out) ⟨wr.heap.size, 0, none⟩ 1 1 (cells6 x) rfl (rfl) (HNW.out) (cells6_one x) (by unfold maxLen; omega) (by omega) (hs1) ?_
        intro v2 w2 ho2 hg2 _
        have HW2 : Hid (Below wr.heap.size wr w2) := Lib.hid (HW3.out.trans ((below_grown2 hs1 HO1.out hg2).mono (Nat.le_succ _)))
        have HO2 : Hid (w2.ownsRow wr.heap.size 31 6 v2 (p + 1) (flat6 (T.take p ++ [x]))) := Lib.hid (by have h := own_baseS ho2 (Nat.le_succ _); rw [Nat.zero_add, List.nil_append] at h; rw [flat6_snoc]; exact h)
        clear ho2 hg2
        refine hK.out _ _ ⟨below_cell HW2.out b0, below_cell HW2.out b1, below_cell HW2.out b2, below_cell HW2.out b3, below_cell HW2.out b4, below_cell HW2.out b5⟩ (fun hH2 => ?_)
        clear hK K hHeld
        rename _ => hHeld
        try simp only [Act.put, List.setIfInBounds_toArray, List.set_cons_zero, List.set_cons_succ]
        refine wpAnyH_take (i := 8) (oi := { dst := some 7, op := _, type := _, pos := _, after := _, guard := _ }) (v := ?_) rfl (by kernel_rfl) (by kernel_rfl) (by kernel_rfl) (fun _ _ _ h => h) (Or.inl ⟨by rfl, ?_⟩) (by assumption) ?_
        rotate_left
        · (intro w hSw; (try dsimp only at hSw); go_simp)
          first | done | with_reducible rfl
        try simp only [Act.put, List.setIfInBounds_toArray, List.set_cons_zero, List.set_cons_succ]
        refine wpAnyH_done (by kernel_rfl) ?_ _
        have hsz2 : wr.heap.size ≤ w2.heap.size := HW2.out.size
        have BW2 := Lib.hid (BEL.out.trans (HW2.out.mono BEL.out.size))
        clear b0 b1 b2 b3 b4 b5
        rcases Nat.lt_or_ge p cap with hq | hq
        · have q1 : ¬ p = cap := by omega
          have q2 : ¬ cap = p := by omega
          have q3 : (p : Int) < (cap : Int) := by omega
          have q4 : ¬ cap - p = 0 := by omega
          have q5 : ¬ cap ≤ p := by omega
          go_wp2_with (at_builtin; refine wpList_append_own _ rfl (.tmp 37) (.tmp 40) 22 rfl wr.heap.size 31 i0 (.agg #[.int .i64 0, .int .i64 0, .int .i64 0, .int .i64 0, .int .i64 0, .int .i64 0]) 6 48 Try.underlying22 hi hz0 hz1 hz2 rfl (by decide) v2 (p + 1) (flat6 (T.take p ++ [x])) rfl HO2.out (ad.add (p * 6)) (k - p) (cap - p) (flat6 (T.drop p)) rfl (by rw [flat6_len, HDL.out]) (HN2.out _ _ hpk BW2.out) (flat6_one _) (by unfold maxLen; omega) (by omega) hsz2 ?_; intro v3 w3 ho3 hg3 _; have HO3 := Lib.hid ho3; have HB3 := Lib.hid (below_grown2 hsz2 HO2.out hg3); clear ho3 hg3)
          go_ret
          have hn : (ins T x).length = p + 1 + (k - p) := by rw [HE.out, List.length_append, List.length_cons, HTL.out, HDL.out]; omega
          have hfl : flat6 (T.take p ++ [x]) ++ flat6 (T.drop p) = flat6 (ins T x) := by rw [HE.out, ← flat6_app, List.append_assoc]; rfl
          have h3 := HO3.out
          rw [hfl] at h3
          obtain ⟨g, c, rfl, hnc, hcm, hg, hr, hbg⟩ := own_r6 h3 (by omega)
          exact ⟨g, c, by rw [hn]; rfl, by omega, hcm, hg, hr, BW2.out.trans (HB3.out.mono BEL.out.size), .inr (Nat.le_trans BEL.out.size hbg)⟩
        · obtain rfl : p = k := by omega
          obtain rfl : p = cap := by omega
          have HD0 : Hid (T.drop p = []) := Lib.hid (List.eq_nil_of_length_eq_zero (by rw [HDL.out]; omega))
          go_wp2_with (at_builtin; refine wpList_append_own _ rfl (.tmp 37) (.tmp 40) 22 rfl wr.heap.size 31 i0 (.agg #[.int .i64 0, .int .i64 0, .int .i64 0, .int .i64 0, .int .i64 0, .int .i64 0]) 6 48 Try.underlying22 hi hz0 hz1 hz2 rfl (by decide) v2 (p + 1) (flat6 (T.take p ++ [x])) rfl HO2.out ad 0 0 [] rfl (rfl) (fun j u hu => by simp at hu) (fun u hu => by simp at hu) (by unfold maxLen; omega) (by omega) hsz2 ?_; intro v3 w3 ho3 hg3 _; have HO3 := Lib.hid ho3; have HB3 := Lib.hid (below_grown2 hsz2 HO2.out hg3); clear ho3 hg3)
          go_ret
          have hn : (ins T x).length = p + 1 + 0 := by rw [HE.out, List.length_append, List.length_cons, HTL.out, HDL.out]; omega
          have hfl : flat6 (T.take p ++ [x]) ++ [] = flat6 (ins T x) := by rw [HE.out, HD0.out, List.append_nil]
          have h3 := HO3.out
          rw [hfl] at h3
          obtain ⟨g, c, rfl, hnc, hcm, hg, hr, hbg⟩ := own_r6 h3 (by omega)
          exact ⟨g, c, by rw [hn]; rfl, by omega, hcm, hg, hr, BW2.out.trans (HB3.out.mono BEL.out.size), .inr (Nat.le_trans BEL.out.size hbg)⟩
theorem rinsert_nil (x : Wn) (w : World) :
    Calls Try.prog 43 #[.slice none 0 0, x.v] w fun e w' => ∃ g c, e = .returned (.slice (some ⟨g, 0, none⟩) (ins [] x).length c) ∧ (ins [] x).length ≤ c ∧ c ≤ maxLen ∧ g < w'.heap.size ∧ R6 w' g (ins [] x) ∧ Below w.heap.size w w' ∧ w.heap.size ≤ g := by
  have N0 := Lib.hid (Wb.new w x).bx
  go_enter Try.func43, Try.ntmps43
  go_wp2_with fail
  go_loopg [5, 6] 0 (fun g pv i wr => i = .int .i64 0 ∧ pv = .int .i64 0 ∧ Bx wr w.heap.size x ∧ Below w.heap.size w wr)
  case atStart => exact ⟨rfl, rfl, N0.out, bel1 _ _⟩
  case round =>
    obtain ⟨rfl, rfl, hbx, hB2⟩ := hrel
    have BX := Lib.hid hbx
    have BEL := Lib.hid hB2
    have hfl : flat6 (ins [] x) = cells6 x := by show cells6 x ++ [] = _; exact List.append_nil _
    have b0 := BX.out.c0
    have b1 := BX.out.c1
    have b2 := BX.out.c2
    have b3 := BX.out.c3
    have b4 := BX.out.c4
    have b5 := BX.out.c5
    obtain ⟨i0, hi, hz0, hz1, hz2⟩ := info_parts infoW
    clear hbx hB2
    go_upto_region 10 with fail
    refine wp_region_held_drew (S := fun W => W.cell? ⟨w.heap.size, 0, none⟩ = some (.int .i64 x.kind) ∧ W.cell? ⟨w.heap.size, 1, none⟩ = some (.int .i64 x.a) ∧ W.cell? ⟨w.heap.size, 2, none⟩ = some (.int .i64 x.b) ∧ W.cell? ⟨w.heap.size, 3, none⟩ = some (.int .i64 x.fr) ∧ W.cell? ⟨w.heap.size, 4, none⟩ = some (.int .i64 x.un) ∧ W.cell? ⟨w.heap.size, 5, none⟩ = some (.int .i64 x.rate)) (by kernel_rfl) ⟨cell_drw b0, cell_drw b1, cell_drw b2, cell_drw b3, cell_drw b4, cell_drw b5⟩ (fun hHeld => ?_)
    refine wpAnyH_take (i := 0) (oi := { dst := some 29, op := _, type := _, pos := _, after := _, guard := _ }) (v := ?_) rfl (by kernel_rfl) (by kernel_rfl) (by kernel_rfl) (fun _ _ _ h => h) (Or.inl ⟨by rfl, ?_⟩) (by assumption) ?_
    rotate_left
    · (intro w hSw; (try dsimp only at hSw); go_simp)
      first | done | with_reducible rfl
    try simp only [Act.put, List.setIfInBounds_toArray, List.set_cons_zero, List.set_cons_succ]
    refine wpAnyH_take (i := 1) (oi := { dst := some 30, op := _, type := _, pos := _, after := _, guard := _ }) (v := ?_) rfl (by kernel_rfl) (by kernel_rfl) (by kernel_rfl) (fun _ _ _ h => h) (Or.inl ⟨by rfl, ?_⟩) (by assumption) ?_
    rotate_left
    · (intro w hSw; (try dsimp only at hSw); go_simp)
      first | done | with_reducible rfl
    try simp only [Act.put, List.setIfInBounds_toArray, List.set_cons_zero, List.set_cons_succ]
    refine wpAnyH_take (i := 2) (oi := { dst := some 31, op := _, type := _, pos := _, after := _, guard := _ }) (v := ?_) rfl (by kernel_rfl) (by kernel_rfl) (by kernel_rfl) (fun _ _ _ h => h) (Or.inl ⟨by rfl, ?_⟩) (by assumption) ?_
    rotate_left
    · (intro w hSw; (try dsimp only at hSw); go_simp)
      first | done | with_reducible rfl
    try simp only [Act.put, List.setIfInBounds_toArray, List.set_cons_zero, List.set_cons_succ]
    refine wpAnyH_take (i := 3) (oi := { dst := some 32, op := _, type := _, pos := _, after := _, guard := _ }) (v := ?_) rfl (by kernel_rfl) (by kernel_rfl) (by kernel_rfl) (fun _ _ _ h => h) (Or.inl ⟨by rfl, ?_⟩) (by assumption) ?_
    rotate_left
    · (intro w hSw; (try dsimp only at hSw); go_simp)
      first | done | with_reducible rfl
    try simp only [Act.put, List.setIfInBounds_toArray, List.set_cons_zero, List.set_cons_succ]
    refine wpAnyH_take (i := 5) (oi := { dst := some 34, op := _, type := _, pos := _, after := _, guard := _ }) (v := ?_) rfl (by kernel_rfl) (by kernel_rfl) (by kernel_rfl) (fun _ _ _ h => h) (Or.inl ⟨by rfl, ?_⟩) (by assumption) ?_
    rotate_left
    · (intro w hSw; (try dsimp only at hSw); go_simp)
      first | done | with_reducible rfl
    try simp only [Act.put, List.setIfInBounds_toArray, List.set_cons_zero, List.set_cons_succ]
    refine wpAnyH_ready (rs := [4, 6]) (by kernel_rfl) (by simp) ?_
    refine AllReadyH.cons (o := { dst := some 33, op := _, type := _, pos := _, after := _, guard := _ }) rfl (fun K hK => ?_) (AllReadyH.cons (o := { dst := some 35, op := _, type := _, pos := _, after := _, guard := _ }) rfl (fun K hK => ?_) AllReadyH.nil)
    · go_simp
      refine hK.out _ _ ⟨cell_drw b0, cell_drw b1, cell_drw b2, cell_drw b3, cell_drw b4, cell_drw b5⟩ (fun hH2 => ?_)
      clear hK K hHeld
      rename _ => hHeld
      try simp only [Act.put, List.setIfInBounds_toArray, List.set_cons_zero, List.set_cons_succ]
      refine wpAnyH_ready (rs := [6]) (by kernel_rfl) (by simp) ?_
      refine AllReadyH.cons (o := { dst := some 35, op := _, type := _, pos := _, after := _, guard := _ }) rfl (fun K hK => ?_) AllReadyH.nil
      go_simp
      refine hK.out _ _ ⟨cell_under_drew _ b0, cell_under_drew _ b1, cell_under_drew _ b2, cell_under_drew _ b3, cell_under_drew _ b4, cell_under_drew _ b5⟩ (fun hH2 => ?_)
      clear hK K hHeld
      rename _ => hHeld
      try simp only [Act.put, List.setIfInBounds_toArray, List.set_cons_zero, List.set_cons_succ]
      refine wpAnyH_ready (rs := [7]) (by kernel_rfl) (by simp) ?_
      refine AllReadyH.cons (o := { dst := some 36, op := _, type := _, pos := _, after := _, guard := _ }) rfl (fun K hK => ?_) AllReadyH.nil
      refine wp_append_own _ (.tmp 33) (.tmp 35) 22 rfl w.heap.size 31 i0 (.agg #[.int .i64 0, .int .i64 0, .int .i64 0, .int .i64 0, .int .i64 0, .int .i64 0]) 6 48 Try.underlying22 hi hz0 hz1 hz2 rfl (by decide) (.slice none 0 0) (0) ([]) rfl (World.ownsRow_nil _ _ _ _) ⟨wr.heap.size, 0, none⟩ 1 1 (cells6 x) rfl (rfl) (cells6_new wr x) (cells6_one x) (by unfold maxLen; omega) (by omega) (by have := BEL.out.size; simp; omega) ?_
      intro v2 w2 ho2 hg2 _
      have HW2 : Hid (Below w.heap.size w w2) := Lib.hid ((BEL.out.alloc BEL.out.size _).drew.trans (below_grown2 (by have := BEL.out.size; simp; omega) (World.ownsRow_nil _ w.heap.size 31 6) hg2))
      have HW3 : Hid (Below wr.heap.size wr w2) := Lib.hid ((bel1 wr _).drew.trans (below_grown2 (by simp) (World.ownsRow_nil _ wr.heap.size 31 6) hg2))
      have HO2 : Hid (w2.ownsRow w.heap.size 31 6 v2 1 (cells6 x)) := Lib.hid ho2
      clear ho2 hg2
      refine hK.out _ _ ⟨below_cell HW3.out b0, below_cell HW3.out b1, below_cell HW3.out b2, below_cell HW3.out b3, below_cell HW3.out b4, below_cell HW3.out b5⟩ (fun hH2 => ?_)
      clear hK K hHeld
      rename _ => hHeld
      try simp only [Act.put, List.setIfInBounds_toArray, List.set_cons_zero, List.set_cons_succ]
      refine wpAnyH_take (i := 8) (oi := { dst := some 7, op := _, type := _, pos := _, after := _, guard := _ }) (v := ?_) rfl (by kernel_rfl) (by kernel_rfl) (by kernel_rfl) (fun _ _ _ h => h) (Or.inl ⟨by rfl, ?_⟩) (by assumption) ?_
      rotate_left
      · (intro w hSw; (try dsimp only at hSw); go_simp)
        first | done | with_reducible rfl
      try simp only [Act.put, List.setIfInBounds_toArray, List.set_cons_zero, List.set_cons_succ]
      refine wpAnyH_done (by kernel_rfl) ?_ _
      clear b0 b1 b2 b3 b4 b5
      go_wp2_with (at_builtin; go_must (refine wpList_append_own_none rfl (.tmp 37) (.tmp 40) 22 rfl w.heap.size 31 i0 6 Try.underlying22 hi v2 1 (cells6 x) rfl HO2.out rfl ?_))
      go_ret
      have h3 := HO2.out
      rw [← hfl] at h3
      obtain ⟨g, c, rfl, hnc, hcm, hg, hr, hbg⟩ := own_r6 h3 (by omega)
      exact ⟨g, c, rfl, hnc, hcm, hg, hr, HW2.out, hbg⟩
    · go_simp
      refine hK.out _ _ ⟨cell_under_drew _ b0, cell_under_drew _ b1, cell_under_drew _ b2, cell_under_drew _ b3, cell_under_drew _ b4, cell_under_drew _ b5⟩ (fun hH2 => ?_)
      clear hK K hHeld
      rename _ => hHeld
      try simp only [Act.put, List.setIfInBounds_toArray, List.set_cons_zero, List.set_cons_succ]
      refine wpAnyH_ready (rs := [4]) (by kernel_rfl) (by simp) ?_
      refine AllReadyH.cons (o := { dst := some 33, op := _, type := _, pos := _, after := _, guard := _ }) rfl (fun K hK => ?_) AllReadyH.nil
      go_simp
      refine hK.out _ _ ⟨cell_under_drew _ b0, cell_under_drew _ b1, cell_under_drew _ b2, cell_under_drew _ b3, cell_under_drew _ b4, cell_under_drew _ b5⟩ (fun hH2 => ?_)
      clear hK K hHeld
      rename _ => hHeld
      try simp only [Act.put, List.setIfInBounds_toArray, List.set_cons_zero, List.set_cons_succ]
      refine wpAnyH_ready (rs := [7]) (by kernel_rfl) (by simp) ?_
      refine AllReadyH.cons (o := { dst := some 36, op := _, type := _, pos := _, after := _, guard := _ }) rfl (fun K hK => ?_) AllReadyH.nil
      refine wp_append_own _ (.tmp 33) (.tmp 35) 22 rfl w.heap.size 31 i0 (.agg #[.int .i64 0, .int .i64 0, .int .i64 0, .int .i64 0, .int .i64 0, .int .i64 0]) 6 48 Try.underlying22 hi hz0 hz1 hz2 rfl (by decide) (.slice none 0 0) (0) ([]) rfl (World.ownsRow_nil _ _ _ _) ⟨wr.heap.size, 0, none⟩ 1 1 (cells6 x) rfl (rfl) (cells6_new wr x) (cells6_one x) (by unfold maxLen; omega) (by omega) (by have := BEL.out.size; simp; omega) ?_
      intro v2 w2 ho2 hg2 _
      have HW2 : Hid (Below w.heap.size w w2) := Lib.hid ((BEL.out.alloc BEL.out.size _).drew.trans (below_grown2 (by have := BEL.out.size; simp; omega) (World.ownsRow_nil _ w.heap.size 31 6) hg2))
      have HW3 : Hid (Below wr.heap.size wr w2) := Lib.hid ((bel1 wr _).drew.trans (below_grown2 (by simp) (World.ownsRow_nil _ wr.heap.size 31 6) hg2))
      have HO2 : Hid (w2.ownsRow w.heap.size 31 6 v2 1 (cells6 x)) := Lib.hid ho2
      clear ho2 hg2
      refine hK.out _ _ ⟨below_cell HW3.out b0, below_cell HW3.out b1, below_cell HW3.out b2, below_cell HW3.out b3, below_cell HW3.out b4, below_cell HW3.out b5⟩ (fun hH2 => ?_)
      clear hK K hHeld
      rename _ => hHeld
      try simp only [Act.put, List.setIfInBounds_toArray, List.set_cons_zero, List.set_cons_succ]
      refine wpAnyH_take (i := 8) (oi := { dst := some 7, op := _, type := _, pos := _, after := _, guard := _ }) (v := ?_) rfl (by kernel_rfl) (by kernel_rfl) (by kernel_rfl) (fun _ _ _ h => h) (Or.inl ⟨by rfl, ?_⟩) (by assumption) ?_
      rotate_left
      · (intro w hSw; (try dsimp only at hSw); go_simp)
        first | done | with_reducible rfl
      try simp only [Act.put, List.setIfInBounds_toArray, List.set_cons_zero, List.set_cons_succ]
      refine wpAnyH_done (by kernel_rfl) ?_ _
      clear b0 b1 b2 b3 b4 b5
      go_wp2_with (at_builtin; go_must (refine wpList_append_own_none rfl (.tmp 37) (.tmp 40) 22 rfl w.heap.size 31 i0 6 Try.underlying22 hi v2 1 (cells6 x) rfl HO2.out rfl ?_))
      go_ret
      have h3 := HO2.out
      rw [← hfl] at h3
      obtain ⟨g, c, rfl, hnc, hcm, hg, hr, hbg⟩ := own_r6 h3 (by omega)
      exact ⟨g, c, rfl, hnc, hcm, hg, hr, HW2.out, hbg⟩
end Q
end Go.Proofs.Ytojflmejkigdiaa
