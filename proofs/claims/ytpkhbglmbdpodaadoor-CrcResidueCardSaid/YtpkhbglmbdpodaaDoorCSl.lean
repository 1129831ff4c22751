/-
  The program's Seal.
-/
import Derived.Test.YtpkhbglmbdpodaaDoorCFeed
import Derived.Test.YtpkhbglmbdpodaaDoorCSb
import Derived.Test.YtpkhbglmbdpodaaDoorApp
import Derived.OwnWalk
import Derived.Deep.WholeRow
namespace Go.Proofs.YtpkhbglmbdpodaaDoor
open Go.RowKit
namespace C
open H
set_option linter.unusedVariables false

theorem own_base {w : World} {base base' n : Nat} {e : TypeId} {v : Value} {xs : List Value} (h : w.ownsRow base e 1 v n xs) (hb : base' ≤ base) : w.ownsRow base' e 1 v n xs := by
  refine ⟨h.1, ?_⟩
  rcases h.2 with h2 | ⟨g, cap, cur, hv, hg, hh, hr⟩
  · exact .inl h2
  · exact .inr ⟨g, cap, cur, hv, by omega, hh, hr⟩
theorem arr4_rd {w : World} {g d : Nat} (h : w.heap[g]? = some (.cells (arr4 d) 61 (0, 0))) {B : Nat} (hB : g < B) : RdI w B .u8 (some ⟨g, 0, none⟩) (ints (le4 d)) := fun j hj => by
  refine ⟨_, rfl, hB, ?_⟩
  have ea : (⟨g, 0, none⟩ : Addr).add j = ⟨g, j, none⟩ := by unfold Addr.add; split <;> simp_all
  rw [ea, cell_of_row w g j _ _ _ h]
  unfold arr4
  rw [List.getElem?_toArray, List.getElem?_map, List.getElem?_eq_getElem hj]
  rfl

set_option maxRecDepth 100000 in
set_option maxHeartbeats 1000000 in
theorem pseal_any (A : Option Addr) (n c : Nat) (bs : List Int) (w : World) (tb : Tab w) (hl : bs.length = n) (hn : n ≤ 140737488351200) (hc : n ≤ c ∧ c ≤ maxLen) (hnil : A = none → c = 0) (hb : Byt bs) (hrd : RdI w w.heap.size .u8 A bs) :
    Calls Tryd.prog 20 #[.slice A n c] w fun e w' => ∃ v, e = .returned v ∧ OwnB w w' (bs ++ ints (le4 (sum (nats bs)))) v := by
  obtain ⟨i0, hi, hz0, hz1, hz2⟩ := info_parts infoB
  have hsum := psum_same A n c bs w tb hl hn hb hrd
  obtain ⟨d, hd⟩ : ∃ d, sum (nats bs) = d := ⟨_, rfl⟩
  have hdl : d < 4294967296 := by rw [← hd]; exact sum_lt _
  rw [hd] at hsum ⊢
  have hsb := psb_any d w hdl
  have HL := Lib.hid hl
  have HB8 := Lib.hid hb
  have HR := Lib.hid hrd
  have HN := Lib.hid hnil
  clear hl hb hrd hnil tb hc hd hdl
  go_enter Tryd.func20, Tryd.ntmps20
  go_wp2_with fail
  refine hsum.mono ?_
  clear hsum
  rintro r w0 ⟨rfl, rfl⟩
  go_wp2_with fail
  refine hsb.mono ?_
  clear hsb
  rintro r w1 ⟨rfl, hB1⟩
  go_wp2_with fail
  rw [run_store_row (cs := arr4 d) (heap_alloc_new w1 _) (by rw [arr4_size]; rfl) (int_cells _ _), World.setRow_alloc_new]
  have hb1 := heap_alloc_new w1 (.cells (arr4 d) 61)
  have hB2 : Below w0.heap.size w0 (w1.alloc (.cells (arr4 d) 61)) := hB1.alloc hB1.size _
  have hs2 : w1.heap.size < (w1.alloc (.cells (arr4 d) 61)).heap.size := by simp
  generalize w1.alloc (.cells (arr4 d) 61) = w2 at *
  have hs1 := hB1.size
  generalize w1.heap.size = g at *
  have HX := Lib.hid (And.intro hb1 (And.intro hB2 (And.intro hs2 hs1)))
  clear hb1 hB2 hs2 hs1 hB1
  have hl4 : (ints (le4 d)).length = 4 := by rw [ints_len]; exact digits_len 4 d
  have HL4 := Lib.hid hl4
  clear hl4
  go_wp2_with (first
    | (at_make; refine wpList_make_own _ rfl _ _ 22 rfl w2.heap.size 5 i0 (.int .u8 0) 1 Tryd.underlying22 hi hz0 hz1 .i64 .i64 _ (n + 4) rfl rfl (by omega) (by rw [hz2]; omega) (by unfold maxLen; omega) (Nat.le_refl _) ?_; intro w3 hown hgrow; have HO3 := Lib.hid hown; have HB3 := Lib.hid ((Below.refl w2.heap.size w2).grown hgrow (Nat.le_refl _) (fun k e => by cases e)); have HS3 := Lib.hid (HX.out.2.1.trans (HB3.out.mono HX.out.2.1.size)); clear hown hgrow)
    | (at_builtin; refine wpList_append_ints rfl (.tmp 12) (.tmp 13) 22 rfl w2.heap.size 5 i0 .u8 1 Tryd.underlying22 hi hz0 hz1 hz2 _ 0 [] rfl HO3.out A n c _ bs rfl HL.out HN.out (HR.out.below HS3.out) (by unfold maxLen; omega) (by omega) HB3.out.size ?_; intro v4 w4 ho4 hB4; have HO4 := Lib.hid ho4; have HB4 := Lib.hid hB4; clear ho4 hB4)
    | (at_builtin; refine wpList_append_ints rfl (.tmp 15) (.tmp 16) 22 rfl w2.heap.size 5 i0 .u8 1 Tryd.underlying22 hi hz0 hz1 hz2 _ _ _ rfl HO4.out (some ⟨g, 0, none⟩) 4 4 _ (ints (le4 d)) rfl HL4.out (fun h => by cases h) (arr4_rd ((HB4.out.block g HX.out.2.2.1).trans ((HB3.out.block g HX.out.2.2.1).trans HX.out.1)) (Nat.lt_succ_self g)) (by unfold maxLen; omega) (by omega) (Nat.le_trans HB3.out.size HB4.out.size) ?_; intro v5 w5 ho5 hB5; have HO5 := Lib.hid ho5; have HB5 := Lib.hid hB5; clear ho5 hB5))
  go_ret
  refine ⟨_, rfl, ?_, ?_⟩
  · have h := own_base HO5.out HX.out.2.1.size
    rw [List.length_append, HL.out, HL4.out, List.map_append]
    simpa using h
  · exact HX.out.2.1.trans (((HB3.out.trans HB4.out).trans HB5.out).mono HX.out.2.1.size)
end C
end Go.Proofs.YtpkhbglmbdpodaaDoor
