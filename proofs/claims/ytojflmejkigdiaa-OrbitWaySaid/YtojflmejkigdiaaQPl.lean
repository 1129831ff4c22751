/-
  slices.Sort and slices.Reverse over a slice of the call's own; the landed Places.
-/
import Derived.Test.YtojflmejkigdiaaQTks
import Derived.Sort.OwnSortedInts
namespace Go.Proofs.Ytojflmejkigdiaa
open Go.RowKit Go.Shelf
attribute [local go_sem] Oper.semAt_some
namespace Q
open H
set_option linter.unusedVariables false
set_option linter.unusedSimpArgs false
set_option maxRecDepth 100000
def srtI (zs : List Int) : List Int := zs.mergeSort fun x y => decide (x ≤ y)
theorem srtI_len (zs : List Int) : (srtI zs).length = zs.length := by unfold srtI; exact List.length_mergeSort _
theorem psort_any (base : Nat) (v : Value) (zs : List Int) (w : World) (hl : zs.length ≤ 140737488351232) (h : w.ownsRow base 3 1 v zs.length (ints zs)) :
    Calls Try.prog 51 #[v] w fun e w' => e = .returned (.tuple #[]) ∧ w'.ownsRow base 3 1 v zs.length (ints (srtI zs)) ∧ w.grownBy w' v.ownBlock := by
  rcases h.2 with ⟨rfl, h0⟩ | ⟨g, cap, cur, rfl, hb, hh, hn, hc, hs, ht⟩
  · have hz : zs = [] := List.length_eq_zero_iff.1 h0
    subst hz
    refine (Try.slices_Sort_int_none none 0 w).mono ?_
    rintro e w' ⟨rfl, rfl⟩
    refine ⟨rfl, ?_, ⟨rfl, rfl, rfl, Nat.le_refl _, fun _ _ _ => rfl⟩⟩
    rw [show srtI [] = [] by simp [srtI]]
    exact World.ownsRow_nil _ _ _ _
  · refine (Try.slices_Sort_int g 0 cap zs w (holds_of_blockI hh (by rw [Nat.mul_one] at ht; exact ht)) (hlt_of hh) (by omega)).mono ?_
    rintro e w' ⟨rfl, n, os, rfl⟩
    exact ⟨rfl, ownsRow_sortedI (srtI_len zs) hb hh hn hc hs, grownBy_sortedI _⟩
theorem prev_any (base : Nat) (v : Value) (zs : List Int) (w : World) (hl : zs.length ≤ 140737488351232) (hne : zs ≠ []) (h : w.ownsRow base 3 1 v zs.length (ints zs)) :
    Calls Try.prog 68 #[v] w fun e w' => e = .returned (.tuple #[]) ∧ w'.ownsRow base 3 1 v zs.length (ints zs.reverse) ∧ w.grownBy w' v.ownBlock := by
  rcases h.2 with ⟨rfl, h0⟩ | ⟨g, cap, cur, rfl, hb, hh, hn, hc, hs, ht⟩
  · exact absurd (List.length_eq_zero_iff.1 h0) hne
  · refine (Try.slices_Reverse_int g 0 cap zs w (holds_of_blockI hh (by rw [Nat.mul_one] at ht; exact ht)) (by omega)).mono ?_
    rintro e w' ⟨rfl, n, rfl⟩
    have e1 := Sort.grow_empty (Sort.putRow (Value.int .i64) (Sort.ahead w n) g 0 zs.reverse.toArray)
    rw [← e1]
    exact ⟨rfl, ownsRow_sortedI (List.length_reverse) hb hh hn hc hs, grownBy_sortedI _⟩
theorem own_base {w : World} {b b' n : Nat} {e : TypeId} {v : Value} {xs : List Value} (h : w.ownsRow b e 1 v n xs) (hb : b' ≤ b) : w.ownsRow b' e 1 v n xs := by
  obtain ⟨hl, h | ⟨g, cap, cur, h1, h2, h3⟩⟩ := h
  · exact ⟨hl, .inl h⟩
  · exact ⟨hl, .inr ⟨g, cap, cur, h1, by omega, h3⟩⟩
def placs (T : List Wn) (a t : Int) : List Int := srtI ((T.filter (pPlaces a t)).map (·.b))
def bs {T : List Wn} {p : Wn → Bool} (pre : List (El T p)) : List Int := pre.map fun x => x.1.b
theorem bs_snoc {T : List Wn} {p : Wn → Bool} (pre : List (El T p)) (x : El T p) : ints (bs (pre ++ [x])) = ints (bs pre) ++ [.int .i64 x.1.b] := by simp [bs, ints]
theorem bs_all (T : List Wn) (p : Wn → Bool) : bs (all T p) = (T.filter p).map (·.b) := by
  unfold bs
  rw [← all_map, List.map_map]
  rfl
theorem own_bxrow {β : Type} {B : Nat} (n₀ b : Nat) (k : β → Nat) (f : β → List Value) : OwnFrom B (fun s W => ∃ v, Boxed W b 27 v ∧ W.ownsRow n₀ 3 1 v (k s) (f s)) := by
  rintro s X Y row ⟨v, hv, hr⟩ hg hrow
  refine ⟨v, heap_own hv rfl hg (fun r e => (hrow r e).2), hr.kept hg ?_⟩
  rcases hr.2 with ⟨rfl, _⟩ | ⟨g, cap, cur, rfl, _, hgb, _⟩
  · exact .inl rfl
  · refine .inr fun e' => ?_
    obtain ⟨_, o, ho, hc⟩ := hrow g (by simpa [Value.ownBlock] using e'.symm)
    rw [hgb] at ho; cases ho; cases hc
set_option maxHeartbeats 4000000 in
theorem pplaces_any (T : List Wn) (A : Option Addr) (cap B : Nat) (a t : Int) (w : World) (hB : B ≤ w.heap.size) (hlen : T.length ≤ 1000) (hR : RdsWn w B A T) :
    Calls Try.prog 24 #[.slice A T.length cap, .int .i64 a, .int .i64 t] w fun e w' => ∃ v, e = .returned v ∧ w'.ownsRow w.heap.size 3 1 v (placs T a t).length (ints (placs T a t)) ∧ Below w.heap.size w w' := by
  obtain ⟨i0, hi, hz0, hz1, hz2⟩ := info_parts infoI
  obtain ⟨W6, hW6⟩ : ∃ W6, W6 = ((w.alloc (.cells #[.int .i64 a] 3)).alloc (.cells #[.int .i64 t] 3)).alloc (.cells #[.slice none 0 0] 27) := ⟨_, rfl⟩
  have i1 : Ib W6 w.heap.size a := by rw [hW6]; exact ((ib_new w a _).call (bel1 _ _)).call (bel1 _ _)
  have i2 : Ib W6 (w.heap.size + 1) t := by rw [hW6]; have h := ((ib_new (w.alloc (.cells #[.int .i64 a] 3)) t 3).call (bel1 _ (.cells #[.slice none 0 0] 27))); simpa using h
  have z3 : Boxed W6 (w.heap.size + 1 + 1) 27 (.slice none 0 0) := by rw [hW6]; have h := Boxed.new ((w.alloc (.cells #[.int .i64 a] 3)).alloc (.cells #[.int .i64 t] 3)) 27 (.slice none 0 0); simpa using h
  have bel : Below w.heap.size w W6 := by rw [hW6]; exact bt (bel2 w _ _) (bel1 _ _)
  have hsz : W6.heap.size = w.heap.size + 1 + 1 + 1 := by rw [hW6]; simp
  have hwh := where_any A T.length cap 50 #[bp w.heap.size, bp (w.heap.size + 1)] W6
  have HST := Lib.hid (fun (W : World) (hW : Below W6.heap.size W6 W) Bt Ba hs1 hs2 (n1 : Bt ≠ w.heap.size + 1 + 1) (n2 : Ba ≠ w.heap.size + 1 + 1) => where_stops 2 (by omega) Bt Ba A cap T (pPlaces a t) 50 #[bp w.heap.size, bp (w.heap.size + 1)] (fun b => b = w.heap.size + 1 + 1) W (enters_of Try.func50 (by kernel_rfl) rfl) (by omega)
    (acc_Places _ T a t _ _ W (by omega) (by omega) (i1.call hW) (i2.call hW)) (fun V h => h.sb hs1 n1) (fun V h => h.sb hs2 n2) (fun V h => h.rds (hR.below ((bel.mono hB).trans (hW.mono (by omega)))) (by have := hW.size; have := bel.size; omega) (fun b hb => by omega)))
  have HWH := Lib.hid hwh
  have HW6 := Lib.hid hW6
  have HSZ := Lib.hid hsz
  have HLE := Lib.hid (fun (pre : List (El T (pPlaces a t))) (h : pre <+: all T (pPlaces a t)) => h.length_le)
  have HSO : Hid (∀ W v, W.ownsRow w.heap.size 3 1 v (bs (all T (pPlaces a t))).length (ints (bs (all T (pPlaces a t)))) → Calls Try.prog 51 #[v] W fun e w' => e = .returned (.tuple #[]) ∧ w'.ownsRow w.heap.size 3 1 v (placs T a t).length (ints (placs T a t)) ∧ W.grownBy w' v.ownBlock) := Lib.hid (fun W v h => by
    have hl : (bs (all T (pPlaces a t))).length ≤ 1000 := by
      rw [bs_all, List.length_map]
      exact Nat.le_trans (List.length_filter_le _ _) hlen
    have hp := psort_any w.heap.size v _ W (by omega) h
    have e1 : srtI (bs (all T (pPlaces a t))) = placs T a t := by rw [bs_all]; rfl
    have e2 : (bs (all T (pPlaces a t))).length = (placs T a t).length := by rw [← e1, srtI_len]
    rw [e1, e2] at hp
    exact hp)
  clear hwh i1 i2 hR hW6 hsz
  generalize placs T a t = res at *
  generalize hl : T.length = len at *
  have HL := Lib.hid hl
  clear hl
  refine (callsIn_wide (n := 3)).1 ?_
  refine callsIn_of_wp_marks Try.func24 rfl trivial ?_ rfl
  simp only [Try.ntmps24, List.size_toArray, List.length_cons, List.length_nil, Nat.reduceAdd, Nat.reduceSub, Array.replicate_succ, Array.replicate_zero, List.push_toArray, List.append_toArray, List.nil_append, List.cons_append]
  gi_wp2_with (refine ⟨trivial, ?_⟩; gi_at_call 33; rw [← HW6.out]; refine (callsIn_wide.2 HWH.out).mono ?_; rintro e W0 ⟨rfl, t1, t2, hB0, hsz0⟩; have HSZ0 := Lib.hid hsz0; clear hsz0; have HS := Lib.hid (HST.out W0 hB0 _ _ t1 t2 (by have := HSZ.out; omega) (by have := HSZ.out; omega)))
  have hBW := Lib.hid (bt bel hB0)
  have y3 := heap_keep hB0 z3
  have HB0 := Lib.hid hB0
  clear t1 t2 z3 hB0
  refine wpIn_rangeFunc_ownH rfl (by omega) (gf := 58) (lb := #[bp W6.heap.size, bp (W6.heap.size + 1)]) rfl trivial (enters_of Try.func58 (by kernel_rfl) rfl) HS.out Kf.trans (Kf.b (Nat.le_refl _)) (Below.refl _ _) (fun _ => rfl)
    (fun pre W => (∃ v, Boxed W (w.heap.size + 1 + 1) 27 v ∧ W.ownsRow W0.heap.size 3 1 v (bs pre).length (ints (bs pre))) ∧ (Below w.heap.size w W ∧ W0.heap.size ≤ W.heap.size))
    (fun _ _ _ => False)
    (OwnFrom.and (own_bxrow _ _ _ _) (OwnFrom.and (ownFrom_below (Nat.le_refl _) hBW.out.size) (fun _ _ _ _ hs hg _ => Nat.le_trans hs hg.size)))
    (fun _ _ _ _ _ hs _ _ => hs)
    ⟨⟨_, y3, World.ownsRow_nil _ _ _ _⟩, hBW.out, Nat.le_refl _⟩
    (fun x a' W => ∃ Bx, W0.heap.size ≤ Bx ∧ Wb W Bx x.1 ∧ a' = { tmps := #[.slice A len cap, .int .i64 a, .int .i64 t, undef, bp (w.heap.size), bp (w.heap.size + 1), .slice none 0 0, bp (w.heap.size + 1 + 1), bp Bx, .slice A len cap, .func (.func 50) #[] #[bp w.heap.size, bp (w.heap.size + 1)], .func (.func 58) #[] #[bp W6.heap.size, bp (W6.heap.size + 1)], x.1.v, undef, undef, undef, undef, undef, undef, undef, undef], defers := [] })
    (fun x a' _ X Y row hs hg hr => by obtain ⟨Bx, h1, h2, h3⟩ := hs; exact ⟨Bx, h1, heap_own h2 rfl hg (fun r e => (hr r e).2), h3⟩)
    ?assign ?body ?done ?stop
  case assign =>
    rintro l pre x W K ⟨⟨v, q3, q4⟩, hB, hge⟩ hK
    have hsW := hB.size
    gi_wp2
    exact hK _ _ ((KeepsOthers.alloc _ _).from _) (Kf.of ((Below.refl _ W).alloc hge _) (Nat.le_refl _)) ⟨⟨v, q3.alloc _, q4.alloc _⟩, hB.alloc hsW _, by simp; omega⟩ ⟨W.heap.size, hge, Wb.new W x.1, rfl⟩
  case body =>
    rintro l pre x a' W hl ⟨r, hr⟩ ⟨⟨v, q3, q4⟩, hB, hge⟩ ⟨Bx, hBx, bX, rfl⟩ hlt
    have n2 := bX.bx.c2
    obtain ⟨A3, c3, rfl⟩ := own_shape q4
    have d3 := q3.cell
    have f3 := q3.frozen
    have hplen : (bs pre).length ≤ 1000 := by unfold bs; rw [List.length_map]; omega
    have hbase : W0.heap.size ≤ W.heap.size := hge
    have hsn := bs_snoc pre x
    have hln : (bs (pre ++ [x])).length = (bs pre).length + 1 := by unfold bs; simp
    have HB2 := Lib.hid hB
    clear hr bX hB
    obtain ⟨⟨xk, xa, xb, xf, xu, xr⟩, hx⟩ := x
    dsimp only at *
    gi_wp2_with (gi_at_builtin; refine wpListIn_append_own _ rfl _ _ 27 rfl W0.heap.size 3 i0 (.int .i64 0) 1 8 Try.underlying27 hi hz0 hz1 hz2 rfl (by decide) _ _ _ rfl (q4.alloc _) ⟨W.heap.size, 0, none⟩ 1 1 [.int .i64 xb] rfl rfl (fun j u hu => by rw [ad_add]; exact cell_new1 _ _ _ j u hu) (by simp [Value.oneCell']) (by unfold maxLen; omega) (by omega) (by simp; omega) ?_; intro v' w1 hown' hgrow _; obtain ⟨g', cap', rfl⟩ := ownsRow_succ hown'; have k3 : Boxed w1 (w.heap.size + 1 + 1) 27 _ := (q3.alloc _).kept hgrow (q3.not_row (by decide) q4); have d4 := k3.cell; have f4 := k3.frozen)
    have k4 := Boxed.set (.slice (some ⟨g', 0, none⟩) ((bs pre).length + 1) cap') k3
    have k5 := hown'.kept (grownBy_setCell' w1 (w.heap.size + 1 + 1) (.slice (some ⟨g', 0, none⟩) ((bs pre).length + 1) cap')) (.inr (fun e => k3.not_row (by decide) hown' e.symm))
    have k6 := own_below (W := W) hbase q4 hgrow
    have k7 := (own_keeps (W := W) q4 hgrow).trans (KeepsOthers.setCell w1 ⟨w.heap.size + 1 + 1, 0, none⟩ (.slice (some ⟨g', 0, none⟩) ((bs pre).length + 1) cap'))
    refine ⟨k7.from _, (Kf.of k6 (Nat.le_refl _)).trans (Kf.set _ rfl), ⟨_, k4, ?_⟩, (HB2.out.trans (k6.mono hBW.out.size)).setCell (p := ⟨w.heap.size + 1 + 1, 0, none⟩) (by simp; omega) _, Nat.le_trans hbase k7.size⟩
    rw [hln, hsn]
    exact k5
  case done =>
    rintro D zs W hD rfl ⟨⟨v, q3, q4⟩, hB, hge⟩ hK
    obtain ⟨A3, c3, rfl⟩ := own_shape q4
    have d3 := q3.cell
    have q5 : W.ownsRow w.heap.size 3 1 (.slice A3 (bs (all T (pPlaces a t))).length c3) (bs (all T (pPlaces a t))).length (ints (bs (all T (pPlaces a t)))) := own_base q4 hBW.out.size
    have HC := Lib.hid (HSO.out W _ q5)
    generalize (bs (all T (pPlaces a t))).length = m at *
    gi_wp2_with (refine ⟨trivial, ?_⟩; gi_at_call 51; refine (callsIn_wide.2 HC.out).mono ?_; rintro e w2 ⟨rfl, hr2, hg2⟩; have k3 : Boxed w2 (w.heap.size + 1 + 1) 27 _ := q3.kept hg2 (q3.not_row (by decide) q4); have d4 := k3.cell)
    have hK2 : w2.heap[D]? = some (.deferred (some [])) := (hg2.block D (hlt_of hK) (fun e => by
      rcases q4.2 with ⟨h0, _⟩ | ⟨g, cap, cur, h0, _, hgb, _⟩
      · rw [h0] at e; simp [Value.ownBlock] at e
      · rw [h0] at e
        obtain rfl : D = g := by simpa [Value.ownBlock] using e
        rw [hK] at hgb; cases hgb)).trans hK
    have hB2 : Below w.heap.size w w2 := hB.grown hg2 hB.size (fun k e => by
      rcases q5.2 with ⟨h0, _⟩ | ⟨g, cap, cur, h0, hgl, hgb, _⟩
      · rw [h0] at e; simp [Value.ownBlock] at e
      · rw [h0] at e
        obtain rfl : g = k := by simpa [Value.ownBlock] using e
        exact hgl)
    refine ⟨by simp, .inl ⟨_, _, rfl, run_takeDeferred hK2, ?_⟩⟩
    exact ⟨_, results_tmp rfl _ _ _, _, rfl, ownsRow_putObj hr2 _ hK2 rfl, hB2.trans (belowK_b (w := w) (Nat.le_refl _) w2 D _ _ (by have := hBW.out.size; omega) hK2 rfl rfl)⟩
  case stop =>
    rintro D c pre W hD _ h _
    exact h.elim
end Q
end Go.Proofs.Ytojflmejkigdiaa
