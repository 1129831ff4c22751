/-
  The specification's list, Bytes and Tag.
-/
import Derived.Test.YtcgppbbpdnobfaaHRSum
namespace Go.Proofs.Ytcgppbbpdnobfaa
open Go.RowKit Go.Shelf
namespace H

theorem own_kept_below {w w' : World} {base n : Nat} {e : TypeId} {v : Value} {xs : List Value} (h : w.ownsRow base e 1 v n xs) (hb : Below w.heap.size w w') : w'.ownsRow base e 1 v n xs := by
  refine ⟨h.1, ?_⟩
  rcases h.2 with h2 | ⟨g, cap, cur, hv, hg, hh, hr⟩
  · exact .inl h2
  · exact .inr ⟨g, cap, cur, hv, hg, (hb.block g (Array.getElem?_eq_some_iff.1 hh).1).trans hh, hr⟩

theorem own_ne {w : World} {b b' n n' : Nat} {e e' : TypeId} {v v' : Value} {xs xs' : List Value} (h : w.ownsRow b e 1 v n xs) (h' : w.ownsRow b' e' 1 v' n' xs') (hne : e ≠ e') : v.ownBlock = none ∨ v.ownBlock ≠ v'.ownBlock := by
  rcases h.2 with ⟨rfl, _⟩ | ⟨g, cap, cur, rfl, _, hh, _⟩
  · exact .inl rfl
  · rcases h'.2 with ⟨rfl, _⟩ | ⟨g', cap', cur', rfl, _, hh', _⟩
    · exact .inr (by simp [Value.ownBlock])
    · refine .inr fun e' => ?_
      obtain rfl : g = g' := by simpa [Value.ownBlock] using e'
      rw [hh] at hh'
      injection hh' with hh'
      injection hh' with _ ht
      exact hne ht

theorem own_step {w w1 : World} {b b' n n' : Nat} {e e' : TypeId} {v v' : Value} {xs xs' : List Value} {tmp : Obj} (h : w.ownsRow b e 1 v n xs) (h' : w.ownsRow b' e' 1 v' n' xs') (hne : e ≠ e') (hg : (w.alloc tmp).grownBy w1 v'.ownBlock) : w1.ownsRow b e 1 v n xs :=
  (h.alloc tmp).kept hg (own_ne h h' hne)

set_option maxHeartbeats 1000000 in
theorem rlist_any (base : Nat) (A0 : Option Addr) (n0 c0 : Nat) (xs : List Int) (A : Option Addr) (len cap : Nat) (bs : List Int) (w : World) (hbase : base ≤ w.heap.size) (hown : w.ownsRow base 3 1 (.slice A0 n0 c0) xs.length (xs.map (Value.int .i64)))
    (hb : Byt bs) (hl : bs.length = len) (hlen : len ≤ 140737488351232) (hn : xs.length ≤ 4) (hr : RdI w base .u8 A bs) :
    Calls Try.prog 29 #[.slice A0 n0 c0, .slice A len cap] w fun e w' => ∃ v, e = .returned v ∧ w'.ownsRow base 3 1 v (xs.length + nw len + 1) (vals xs (words bs) ++ [.int .i64 len]) ∧ Below base w w' := by
  have h1 := rwords_any A len cap bs w hb hl hlen (hr.more hbase)
  obtain ⟨i0, hi, hz0, hz1, hz2⟩ := info_parts infoI
  have HL := Lib.hid hl
  have HR := Lib.hid hr
  have HB := Lib.hid hb
  have HO := Lib.hid hown
  clear hl hr hb hown
  go_enter Try.func29, Try.ntmps29
  go_wp2_with (go_at_call 26; refine h1.mono ?_; clear h1; rintro e w2 ⟨v, rfl, hown, hb2⟩)
  obtain ⟨A', c', rfl⟩ := own_shape hown
  have HOW := Lib.hid hown
  clear hown
  have HO2 := Lib.hid (own_kept_below HO.out hb2)
  have hB2 : Below base w w2 := hb2.mono hbase
  have hnw : nw len * 8 ≤ len + 7 := by unfold nw; omega
  have hwl : (words bs).length = nw len := by rw [words_length, HL.out]
  have HW := Lib.hid hwl
  clear hwl
  generalize hm : nw len = m at HOW HW hnw
  have HM := Lib.hid hm
  clear hm
  go_wp2
  go_loopw [0, 6] (fun v i wr => ∃ k : Nat, k ≤ m ∧ i = .int .i64 k ∧ wr.ownsRow base 3 1 v (xs.length + k) (vals xs ((words bs).take k)) ∧ wr.ownsRow w.heap.size 23 1 (.slice A' m c') m ((words bs).map (Value.int .u64)) ∧ Below base w wr) (fun _ i _ => m - (intOf i).toNat)
  case atStart => exact ⟨0, by omega, rfl, by simpa [vals] using HO2.out, HOW.out, hB2⟩
  case round =>
    obtain ⟨k, hk, rfl, hown, how, hB⟩ := hrel
    have HOK := Lib.hid how
    clear how
    generalize hV : vals xs ((words bs).take k) = vs at hown
    have HV := Lib.hid hV
    clear hV
    have hbz : base ≤ wr.heap.size := Nat.le_trans hbase hB.size
    by_cases hlt : k < m
    · obtain ⟨ad, rfl, _, hc⟩ := (own_RdI HOK.out) k (by rw [HW.out]; exact hlt)
      generalize hz : (words bs)[k]?.getD 0 = z at hc
      have HZ := Lib.hid hz
      clear hz
      go_wp2_with (at_builtin; refine wpList_append_own _ rfl _ _ 22 rfl base 3 i0 (.int .i64 0) 1 8 Try.underlying22 hi hz0 hz1 hz2 rfl (by decide) _ _ _ rfl (hown.alloc _) ⟨wr.heap.size, 0, none⟩ 1 1 [.int .i64 (wrap64 z)] rfl rfl (cell_one_new _ _ _) (by simp [Value.oneCell']) (by unfold maxLen; omega) (by omega) (by simp; omega) ?_; intro v' w1 hown' hgrow _)
      refine ⟨⟨k + 1, by omega, by go_num, ?_, own_step HOK.out hown (by decide) hgrow, hB.trans (own_below hbz hown hgrow)⟩, by simp [intOf]; omega⟩
      have hi : k < (words bs).length := by rw [HW.out]; exact hlt
      have hz := HZ.out
      rw [List.getElem?_eq_getElem hi, Option.getD_some] at hz
      rw [List.take_succ_eq_append_getElem hi, vals_snoc, HV.out, ← Nat.add_assoc, hz]
      exact hown'
    · obtain rfl : k = m := by omega
      go_wp2_with (at_builtin; refine wpList_append_own _ rfl _ _ 22 rfl base 3 i0 (.int .i64 0) 1 8 Try.underlying22 hi hz0 hz1 hz2 rfl (by decide) _ _ _ rfl (hown.alloc _) ⟨wr.heap.size, 0, none⟩ 1 1 [.int .i64 len] rfl rfl (cell_one_new _ _ _) (by simp [Value.oneCell']) (by unfold maxLen; omega) (by omega) (by simp; omega) ?_; intro v' w1 hown' hgrow _)
      go_ret
      refine ⟨v', rfl, ?_, hB.trans (own_below hbz hown hgrow)⟩
      have hv := HV.out
      rw [List.take_of_length_le (by rw [HW.out]; exact Nat.le_refl _)] at hv
      rw [HM.out, hv]
      exact hown'

set_option maxHeartbeats 1000000 in
theorem rbytes_any (s : ByteArray) (A : Option Addr) (len cap : Nat) (bs : List Int) (w : World) (hs : s.size ≤ 140737488351232) (hb : Byt bs) (hl : bs.length = len) (hlen : len ≤ 140737488351232) (hr : RdI w w.heap.size .u8 A bs) :
    Calls Try.prog 15 #[.string s, .slice A len cap] w fun e w' => e = .returned (.int .u64 (bytesI (bytesOf s) bs)) ∧ Below w.heap.size w w' := by
  have h1 := rlist_any w.heap.size none 0 0 [] A len cap bs w (Nat.le_refl _) (World.ownsRow_nil _ _ _ _) hb hl hlen (by simp) hr
  have hnw : nw len * 8 ≤ len + 7 := by unfold nw; omega
  have HL := Lib.hid hl
  have HR := Lib.hid hr
  have HB := Lib.hid hb
  clear hl hr hb
  go_enter Try.func15, Try.ntmps15
  go_wp2_with (go_at_call 29; refine h1.mono ?_; clear h1; rintro e w1 ⟨v, rfl, hown, hb1⟩)
  obtain ⟨g, c, rfl⟩ := ownsRow_succ hown
  have hlw : (words bs).length = nw len := by rw [words_length, HL.out]
  rw [vals_eq] at hown
  have h2 := rsum_any s (some ⟨g, 0, none⟩) (([] : List Int).length + nw len + 1) c ([] ++ (words bs).map wrap64 ++ [(len : Int)]) w1 hs (by simp [hlw]) (by simp; omega) (own_RdI hown)
  rw [bytesI_eq _ _ _ HL.out] at h2
  refine h2.mono ?_
  clear h2
  rintro e w2 ⟨rfl, hb2⟩
  go_wp2
  go_ret
  exact ⟨rfl, hb1.trans (hb2.mono hb1.size)⟩

set_option maxHeartbeats 1000000 in
theorem rtag_any (key : Int) (A : Option Addr) (len cap : Nat) (bs : List Int) (w : World) (hb : Byt bs) (hl : bs.length = len) (hlen : len ≤ 140737488351232) (hr : RdI w w.heap.size .u8 A bs) :
    Calls Try.prog 17 #[.int .u64 key, .slice A len cap] w fun e w' => e = .returned (.int .u64 (tagI key bs)) ∧ Below w.heap.size w w' := by
  have hB0 : Below w.heap.size w (w.alloc (.cells #[.int .i64 (wrap64 key)] 3)) := (Below.refl _ w).alloc (Nat.le_refl _) _
  have h1 := rlist_any w.heap.size (some ⟨w.heap.size, 0, none⟩) 1 1 [wrap64 key] A len cap bs (w.alloc (.cells #[.int .i64 (wrap64 key)] 3)) (by simp) (World.ownsRow_lit w #[.int .i64 (wrap64 key)] 1 (Nat.le_refl _) (by unfold maxLen; omega) (by simp)) hb hl hlen (by simp) (hr.below hB0)
  have hnw : nw len * 8 ≤ len + 7 := by unfold nw; omega
  have HL := Lib.hid hl
  have HR := Lib.hid hr
  have HB := Lib.hid hb
  clear hl hr hb
  go_enter Try.func17, Try.ntmps17
  go_wp2_with (go_at_call 29; refine h1.mono ?_; clear h1; rintro e w1 ⟨v, rfl, hown, hb1⟩)
  obtain ⟨g, c, rfl⟩ := ownsRow_succ hown
  have hlw : (words bs).length = nw len := by rw [words_length, HL.out]
  rw [vals_eq] at hown
  have h2 := rsum_any tagB (some ⟨g, 0, none⟩) ([wrap64 key].length + nw len + 1) c ([wrap64 key] ++ (words bs).map wrap64 ++ [(len : Int)]) w1 (by decide) (by simp [hlw]; omega) (by simp; omega) (own_RdI hown)
  rw [tagI_eq _ _ _ HL.out] at h2
  refine h2.mono ?_
  clear h2
  rintro e w2 ⟨rfl, hb2⟩
  have hb3 := hB0.trans hb1
  go_wp2
  go_ret
  exact ⟨rfl, hb3.trans (hb2.mono hb3.size)⟩

end H
end Go.Proofs.Ytcgppbbpdnobfaa
