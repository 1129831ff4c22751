/-
  appendWords: the words of a byte slice and its length are appended to a list of the caller's own; nothing below the list's base is changed.
-/
import Derived.Test.YtcgppbbpdnobfaaHSum
import Derived.RangeFuncBox
import Derived.Maps.AppendAt
namespace Go.Proofs.Ytcgppbbpdnobfaa
open Go.RowKit Go.Shelf
attribute [local go_sem] Oper.semAt_some
namespace H

theorem infoI : (Try.prog.info? 3).map (fun i => (i.zero, i.size, i.bytes)) = some (some (.int .i64 0), 1, 8) := by kernel_rfl

theorem own_keeps {W w1 : World} {base k : Nat} {e : TypeId} {v : Value} {xs : List Value} {tmp : Obj} (hrow : W.ownsRow base e 1 v k xs) (hgrow : (W.alloc tmp).grownBy w1 v.ownBlock) : KeepsOthers W w1 := by
  refine (KeepsOthers.alloc W tmp).trans (KeepsOthers.of_grownBy hgrow fun j o ej hj => ?_)
  rcases (hrow.alloc tmp).2 with ⟨rfl, _⟩ | ⟨g, cap, cur, rfl, _, hgb, _⟩
  · simp [Value.ownBlock] at ej
  · obtain rfl : g = j := by simpa [Value.ownBlock] using ej
    rw [hgb] at hj; cases hj; rfl
theorem own_below {W w1 : World} {base k : Nat} {e : TypeId} {v : Value} {xs : List Value} {tmp : Obj} (hb : base ≤ W.heap.size) (hrow : W.ownsRow base e 1 v k xs) (hgrow : (W.alloc tmp).grownBy w1 v.ownBlock) : Below base W w1 := by
  refine ((Below.refl base W).alloc hb tmp).grown hgrow (by simp; omega) fun j ej => ?_
  rcases hrow.2 with ⟨rfl, _⟩ | ⟨g, cap, cur, rfl, hb, _, _⟩
  · simp [Value.ownBlock] at ej
  · obtain rfl : g = j := by simpa [Value.ownBlock] using ej
    exact hb

/-- The list as it grows. -/
def vals (xs pre : List Int) : List Value := (xs ++ pre.map wrap64).map (Value.int .i64)
theorem vals_snoc (xs pre : List Int) (x : Int) : vals xs (pre ++ [x]) = vals xs pre ++ [.int .i64 (wrap64 x)] := by simp [vals]
theorem vals_length (xs pre : List Int) : (vals xs pre).length = xs.length + pre.length := by simp [vals]

set_option maxRecDepth 100000 in
set_option maxHeartbeats 1000000 in
theorem app_in (base : Nat) (A0 : Option Addr) (n0 c0 : Nat) (xs : List Int) (A : Option Addr) (len cap : Nat) (bs : List Int) (w : World) (hbase : base ≤ w.heap.size) (hown : w.ownsRow base 3 1 (.slice A0 n0 c0) xs.length (xs.map (Value.int .i64)))
    (hb : Byt bs) (hl : bs.length = len) (hlen : len ≤ 140737488351232) (hn : xs.length ≤ 4) (hr : RdI w base .u8 A bs) :
    CallsIn Fence.wide 3 Try.prog 28 #[.slice A0 n0 c0, .slice A len cap] w fun e w' => ∃ v, e = .returned v ∧ w'.ownsRow base 3 1 v (xs.length + nw len + 1) (vals xs (words bs) ++ [.int .i64 len]) ∧ Below base w w' := by
  have HR := Lib.hid hr
  have HL := Lib.hid hl
  have HO := Lib.hid hown
  clear hr hl hown
  obtain ⟨i0, hi, hz0, hz1, hz2⟩ := info_parts infoI
  have HZ1 := Lib.hid hz1
  have HZ2 := Lib.hid hz2
  refine callsIn_of_wp_marks Try.func28 rfl trivial ?_ rfl
  simp only [Try.ntmps28, List.size_toArray, List.length_cons, List.length_nil, Nat.reduceAdd, Nat.reduceSub, Array.replicate_succ, Array.replicate_zero, List.push_toArray, List.append_toArray, List.nil_append, List.cons_append]
  gi_wp2_with (refine ⟨trivial, ?_⟩; gi_at_call 32; refine (wordsB_in _ _ _ _ _).mono ?_; rintro e w' ⟨rfl, rfl⟩)
  have bS := Boxed.new w 22 (.slice A0 n0 c0)
  have bT := Boxed.new (w.alloc (.cells #[.slice A0 n0 c0] 22)) 28 (.slice A len cap)
  rw [World.size_alloc] at bT
  have hB0 : Below base w ((w.alloc (.cells #[.slice A0 n0 c0] 22)).alloc (.cells #[.slice A len cap] 28)) := ((Below.refl _ w).alloc hbase _).alloc (by simp; omega) _
  refine wpIn_rangeFunc_ownF rfl (by omega) (gf := 33) (lb := #[.pointer (some ⟨w.heap.size + 1, 0, none⟩)]) rfl trivial (enters_of Try.func33 (by kernel_rfl) rfl)
    (itB_stops 2 (by omega) (w.heap.size + 1) base A len cap bs hb HL.out hlen _ (by simp) (by simp; omega) bT.cell (HR.out.below hB0)) KpB.t (KpB.b (by simp; omega) (by simp)) (Below.refl _ _) (fun _ => rfl)
    (fun pre W => ((∃ v, Boxed W w.heap.size 22 v ∧ W.ownsRow base 3 1 v (xs.length + pre.length) (vals xs pre) ∧ True) ∧ Boxed W (w.heap.size + 1) 28 (.slice A len cap)) ∧ Below base w W)
    (fun _ _ _ => False)
    (OwnFrom.and (OwnFrom.and (Own.from (holdsRow_own base w.heap.size 22 3 1 (fun pre => xs.length + pre.length) (fun pre => vals xs pre) (fun _ _ => True)) _) (Own.from (boxed_own _ _ (fun _ => .slice A len cap)) _)) (ownFrom_below hbase (by simp; omega)))
    (fun _ _ _ _ _ hs _ _ => hs)
    ⟨⟨⟨_, bS.alloc _, by have := (HO.out.alloc (.cells #[.slice A0 n0 c0] 22)).alloc (.cells #[.slice A len cap] 28); simpa [vals] using this, trivial⟩, bT⟩, hB0⟩
    (fun x => { tmps := #[.slice A0 n0 c0, .slice A len cap, .pointer (some ⟨w.heap.size, 0, none⟩), undef, .slice none 0 0, .int .u64 x, .slice A len cap, .func (.func 33) #[] #[.pointer (some ⟨w.heap.size + 1, 0, none⟩)], .int .u64 x, undef, undef, undef, undef, undef, undef, undef, undef, undef, undef], defers := [] }) ?assign ?body ?done ?stop
  case assign =>
    intro l x W K hK
    gi_wp2
    exact hK
  case body =>
    rintro l pre x W ⟨⟨⟨v, hv, hrow, _⟩, hT⟩, hB⟩ hlt
    have hc := hv.cell
    have hnw : nw len * 8 ≤ len + 7 := by unfold nw; omega
    gi_wp2_with (gi_at_builtin; refine wpListIn_append_own _ rfl _ _ 22 rfl base 3 i0 (.int .i64 0) 1 8 Try.underlying22 hi hz0 hz1 hz2 rfl (by decide) _ _ _ rfl (hrow.alloc _) ⟨W.heap.size, 0, none⟩ 1 1 [.int .i64 (wrap64 x)] rfl rfl (cell_one_new _ _ _) (by simp [Value.oneCell']) (by unfold maxLen; omega) (by omega) (by have := hB.size; simp; omega) ?_; intro v' w1 hown' hgrow _; obtain ⟨g', cap', rfl⟩ := ownsRow_succ hown'; obtain ⟨hv1, hv2, hr2, hk2, hb2⟩ := hv.appended (by decide) hrow (Nat.le_trans hbase hB.size) hbase hown' hgrow; have hc1 := hv1.cell; have hf1 := hv1.frozen)
    have hT2 : Boxed (w1.setCell ⟨w.heap.size, 0, none⟩ (.slice (some ⟨g', 0, none⟩) (xs.length + pre.length + 1) cap')) (w.heap.size + 1) 28 (.slice A len cap) :=
      ((hT.alloc _).kept hgrow (hT.not_row (by decide) hrow)).other (by omega) _
    refine ⟨hk2, ⟨hb2, hT2.cell.trans hT.cell.symm⟩, ⟨⟨_, hv2, ?_, trivial⟩, hT2⟩, hB.trans hb2⟩
    rw [vals_snoc, List.length_append, ← Nat.add_assoc]
    exact hr2
  case done =>
    rintro D ys W hD rfl ⟨⟨⟨v, hv, hrow, _⟩, _⟩, hB⟩ hK
    have hc := hv.cell
    have hnw : nw len * 8 ≤ len + 7 := by unfold nw; omega
    have hwl : (words bs).length = nw len := by rw [words_length, HL.out]
    rw [hwl] at hrow
    have HW := Lib.hid hwl
    clear hwl
    gi_wp2_with (gi_at_builtin; refine wpListIn_append_own _ rfl _ _ 22 rfl base 3 i0 (.int .i64 0) 1 8 Try.underlying22 hi hz0 hz1 hz2 rfl (by decide) _ _ _ rfl (hrow.alloc _) ⟨W.heap.size, 0, none⟩ 1 1 [.int .i64 len] rfl rfl (cell_one_new _ _ _) (by simp [Value.oneCell']) (by unfold maxLen; omega) (by omega) (by have := hB.size; simp; omega) ?_; intro v' w1 hown' hgrow _)
    have hK1 := (own_keeps hrow hgrow).same D _ hK rfl
    have hb1 := own_below (Nat.le_trans hbase hB.size) hrow hgrow
    refine ⟨by simp, .inl ⟨_, _, rfl, run_takeDeferred hK1, ?_⟩⟩
    exact ⟨_, results_tmp rfl _ _ _, v', rfl, ownsRow_putObj hown' _ hK1 rfl, (hB.trans hb1).trans (belowK_b (w := w) hbase w1 D _ _ (by simp at hD; omega) hK1 rfl rfl)⟩
  case stop =>
    rintro D c pre W _ _ h _
    exact h.elim

theorem app_any (base : Nat) (A0 : Option Addr) (n0 c0 : Nat) (xs : List Int) (A : Option Addr) (len cap : Nat) (bs : List Int) (w : World) (hbase : base ≤ w.heap.size) (hown : w.ownsRow base 3 1 (.slice A0 n0 c0) xs.length (xs.map (Value.int .i64)))
    (hb : Byt bs) (hl : bs.length = len) (hlen : len ≤ 140737488351232) (hn : xs.length ≤ 4) (hr : RdI w base .u8 A bs) :
    Calls Try.prog 28 #[.slice A0 n0 c0, .slice A len cap] w fun e w' => ∃ v, e = .returned v ∧ w'.ownsRow base 3 1 v (xs.length + nw len + 1) (vals xs (words bs) ++ [.int .i64 len]) ∧ Below base w w' :=
  callsIn_wide.1 (app_in base A0 n0 c0 xs A len cap bs w hbase hown hb hl hlen hn hr)

end H
end Go.Proofs.Ytcgppbbpdnobfaa
