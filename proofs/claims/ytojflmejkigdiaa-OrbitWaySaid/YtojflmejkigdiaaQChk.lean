/-
  The landed overlapping and Check.
-/
import Derived.Test.YtojflmejkigdiaaQAt
namespace Go.Proofs.Ytojflmejkigdiaa
open Go.RowKit Go.Shelf
namespace Q
open H
set_option linter.unusedVariables false
set_option linter.unusedSimpArgs false
set_option maxRecDepth 100000
theorem rds_take {w : World} {B : Nat} {A : Option Addr} {xs : List Wn} (h : RdsWn w B A xs) (k : Nat) : RdsWn w B A (xs.take k) := fun j x hx => by
  rw [List.getElem?_take] at hx
  split at hx
  · exact h j x hx
  · cases hx
theorem row6 {W : World} {b : Nat} {v0 v1 v2 v3 v4 v5 : Value} {t : TypeId} (h : W.heap[b]? = some (Obj.cells #[v0, v1, v2, v3, v4, v5] t)) : (W.cell? ⟨b, 0, none⟩ = some v0 ∧ W.cell? ⟨b, 1, none⟩ = some v1 ∧ W.cell? ⟨b, 2, none⟩ = some v2 ∧ W.cell? ⟨b, 3, none⟩ = some v3 ∧ W.cell? ⟨b, 4, none⟩ = some v4 ∧ W.cell? ⟨b, 5, none⟩ = some v5) ∧ (W.frozen? ⟨b, 0, none⟩ = false ∧ W.frozen? ⟨b, 1, none⟩ = false ∧ W.frozen? ⟨b, 2, none⟩ = false ∧ W.frozen? ⟨b, 3, none⟩ = false ∧ W.frozen? ⟨b, 4, none⟩ = false ∧ W.frozen? ⟨b, 5, none⟩ = false) := by
  simp [World.cell?, World.frozen?, h]
theorem cell_put6 {W : World} {b b' i : Nat} {v : Value} (x : Wn) (h : W.cell? ⟨b, i, none⟩ = some v) (hne : b ≠ b') : (put6 W b' x).cell? ⟨b, i, none⟩ = some v := by
  have hh : (put6 W b' x).heap[b]? = W.heap[b]? := by
    cases hb : W.heap[b]? with
    | none => simp [World.cell?, hb] at h
    | some o => exact put6_oth x hb hne
  unfold World.cell? at h ⊢
  rw [hh]
  exact h
theorem heap_top_drew (w : World) (o : Obj) : (w.alloc o).drew.heap[w.heap.size]? = some o := heap_top w o
/-- Does a window overlap an earlier one? -/
def ov (T : List Wn) (i : Nat) : Bool := match T[i]? with | some x => ((T.take i).find? (pAt x.kind x.a x.b x.fr)).isSome | none => false
def ovl (T : List Wn) : Bool := (List.range T.length).any (ov T)
theorem ovl_no {T : List Wn} (h : ∀ i, i < T.length → ov T i = false) : ovl T = false := by
  unfold ovl
  rw [List.any_eq_false]
  intro i hi
  rw [h i (List.mem_range.1 hi)]
  simp
theorem ovl_yes {T : List Wn} {i : Nat} (hi : i < T.length) (h : ov T i = true) : ovl T = true := by
  unfold ovl
  rw [List.any_eq_true]
  exact ⟨i, List.mem_range.2 hi, h⟩
set_option maxHeartbeats 4000000 in
theorem povl_any (T : List Wn) (A : Option Addr) (cap B : Nat) (w : World) (hB : B ≤ w.heap.size) (hlen : T.length ≤ 140737488351232) (hcap : T.length ≤ cap) (hR : RdsWn w B A T) :
    Calls Try.prog 37 #[.slice A T.length cap] w fun e w' => e = .returned (.bool (ovl T)) ∧ Below w.heap.size w w' := by
  have HA : Hid (∀ k, k ≤ T.length → ∀ W, Below w.heap.size w W → ∀ x : Wn, Calls Try.prog 18 #[.slice A k cap, .int .i64 x.kind, .int .i64 x.a, .int .i64 x.b, .int .i64 x.fr] W fun e w' => e = .returned (fstV (T.take k) (pAt x.kind x.a x.b x.fr)) ∧ Below W.heap.size W w') := Lib.hid (fun k hk W hW x => by
    have h := pAt_any (T.take k) A cap B x.kind x.a x.b x.fr W (Nat.le_trans hB hW.size) (by rw [List.length_take]; omega) (rds_take (hR.below (hW.mono hB)) k)
    rwa [List.length_take, Nat.min_eq_left hk] at h)
  have HR := Lib.hid hR
  have HGET := Lib.hid (fun k (hk : k < T.length) => (⟨T[k], List.getElem?_eq_getElem hk⟩ : ∃ x, T[k]? = some x))
  have HOV : Hid (∀ k x, T[k]? = some x → ov T k = ((T.take k).find? (pAt x.kind x.a x.b x.fr)).isSome) := Lib.hid (fun k x h => by unfold ov; rw [h])
  have HYES : Hid (∀ k, k < T.length → ov T k = true → ovl T = true) := Lib.hid (fun k hk h => ovl_yes hk h)
  have HNO : Hid ((∀ i, i < T.length → ov T i = false) → ovl T = false) := Lib.hid ovl_no
  generalize hl : T.length = len at *
  have HLEN := Lib.hid hl
  clear hl hR
  generalize ovl T = res at *
  go_enter Try.func37, Try.ntmps37
  go_wp2_with fail
  go_loopg [9] len (fun g i wr => ∃ k : Nat, k + g = len ∧ i = .int .i64 (k : Nat) ∧ Hid (∀ j, j < k → ov T j = false) ∧ Below w.heap.size w wr)
  case atStart => exact ⟨0, Nat.zero_add _, rfl, Lib.hid (fun j hj => absurd hj (Nat.not_lt_zero _)), Below.refl _ _⟩
  case round =>
    obtain ⟨k, hg, rfl, HT, hB2⟩ := hrel
    have BEL := Lib.hid hB2
    have HG := Lib.hid hg
    have hkn : k ≤ len := by omega
    clear hg hB2
    by_cases hlt : k < len
    · have HLT := Lib.hid hlt
      have hki : (k : Int) < (len : Int) := by omega
      have hki2 : (k : Int) ≤ (len : Int) := by omega
      have hki3 : (k : Int) ≤ (cap : Int) := by omega
      obtain ⟨x, hx⟩ := HGET.out k hlt
      obtain ⟨ad, rfl, had, hr⟩ := HR.out.below (BEL.out.mono hB) k x hx
      have c0 := hr.c0
      have c1 := hr.c1
      have c2 := hr.c2
      have c3 := hr.c3
      have c4 := hr.c4
      have c5 := hr.c5
      have HO := Lib.hid (HOV.out k x hx)
      have hv : fstV (T.take k) (pAt x.kind x.a x.b x.fr) = .tuple #[(((T.take k).find? (pAt x.kind x.a x.b x.fr)).getD zw).v, .bool ((T.take k).find? (pAt x.kind x.a x.b x.fr)).isSome] := rfl
      have HC := Lib.hid (fun W hW => HA.out k hkn W hW x)
      rw [hv] at HC
      clear hv hx hr had
      generalize ((T.take k).find? (pAt x.kind x.a x.b x.fr)).getD zw = y at *
      generalize hf : ((T.take k).find? (pAt x.kind x.a x.b x.fr)).isSome = r at *
      have N0 := (Wb.new wr x).bx
      obtain ⟨X, hX⟩ : ∃ X, X = wr.alloc (.cells (wcells x) 31) := ⟨_, rfl⟩
      have HXW := Lib.hid (BEL.out.alloc BEL.out.size (.cells (wcells x) 31))
      go_upto_region 4 with fail
      change Code.wp _ _ _ _ (wr.alloc (.cells (wcells x) 31))
      rw [← hX] at N0 HXW ⊢
      have N1 := N0.call (below_drew _)
      have N2 := (N0.alloc (.cells #[.int .i64 0, .int .i64 0, .int .i64 0, .int .i64 0, .int .i64 0, .int .i64 0] 31)).call (below_drew _)
      have HX1 := Lib.hid (HXW.out.drew)
      have HX2 := Lib.hid ((HXW.out.alloc HXW.out.size (.cells #[.int .i64 0, .int .i64 0, .int .i64 0, .int .i64 0, .int .i64 0, .int .i64 0] 31)).drew)
      have Z := heap_top_drew X (.cells #[.int .i64 0, .int .i64 0, .int .i64 0, .int .i64 0, .int .i64 0, .int .i64 0] 31)
      have q0 := N1.c0
      have q1 := N1.c1
      have q2 := N1.c2
      have q3 := N1.c3
      have r0 := N2.c0
      have r1 := N2.c1
      have r2 := N2.c2
      have r3 := N2.c3
      have hne : wr.heap.size ≠ X.heap.size := by rw [hX]; simp
      have HXX := Lib.hid hX
      clear c0 c1 c2 c3 c4 c5 hX
      go_region_held3 (fun W => W.cell? ⟨wr.heap.size, 0, none⟩ = some (.int .i64 x.kind) ∧ W.cell? ⟨wr.heap.size, 1, none⟩ = some (.int .i64 x.a) ∧ W.cell? ⟨wr.heap.size, 2, none⟩ = some (.int .i64 x.b) ∧ W.cell? ⟨wr.heap.size, 3, none⟩ = some (.int .i64 x.fr)) (with_reducible (first | exact ⟨q0, q1, q2, q3⟩ | exact ⟨r0, r1, r2, r3⟩ | exact ⟨p0, p1, p2, p3⟩ | exact ⟨cell_under _ p0, cell_under _ p1, cell_under _ p2, cell_under _ p3⟩ | exact ⟨cell_put6 y p0 hne, cell_put6 y p1 hne, cell_put6 y p2 hne, cell_put6 y p3 hne⟩))
        ((go_at_call 18; with_reducible refine (HC.out _ (by with_reducible (first | exact HX1.out | exact HX2.out))).mono ?_; rintro e w7 ⟨rfl, hB7⟩; have P := (by with_reducible (first | exact N1.call hB7 | exact N2.call hB7) : Bx w7 wr.heap.size x); have HB8 := Lib.hid (by with_reducible (first | exact bt HX1.out hB7 | exact bt HX2.out hB7) : Below w.heap.size w w7); have p0 := P.c0; have p1 := P.c1; have p2 := P.c2; have p3 := P.c3; (first | (have N7 := (by with_reducible exact heap_keep hB7 Z); obtain ⟨⟨n0, n1, n2, n3, n4, n5⟩, f0, f1, f2, f3, f4, f5⟩ := row6 N7) | skip)))
      all_goals have HU1 := Lib.hid (HB8.out.alloc HB8.out.size (.cells (wcells y) 31))
      all_goals have HU2 := Lib.hid (HB8.out.trans (put6_below (b := X.heap.size) y HXW.out.size))
      all_goals cases r
      all_goals go_wp2_with fail
      all_goals first
        | (go_roundg (gk - 1)
           case measure => have := HG.out; have := HLT.out; omega
           case rel => exact ⟨k + 1, by have := HG.out; have := HLT.out; omega, by go_num, Lib.hid (fun j hj => by
             rcases Nat.lt_or_ge j k with h | h
             · exact HT.out j h
             · obtain rfl : j = k := by omega
               exact HO.out), by with_reducible (first | exact HU1.out | exact HU2.out)⟩)
        | (go_ret
           exact ⟨by rw [HYES.out k HLT.out HO.out]; rfl, by with_reducible (first | exact HU1.out | exact HU2.out)⟩)
    · obtain rfl : k = len := by omega
      have HE := Lib.hid (HNO.out HT.out)
      clear hlt
      go_wp2_with fail
      go_ret
      exact ⟨by rw [HE.out]; rfl, BEL.out⟩
end Q
end Go.Proofs.Ytojflmejkigdiaa
