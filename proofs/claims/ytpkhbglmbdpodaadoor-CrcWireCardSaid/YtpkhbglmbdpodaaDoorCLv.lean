/-
  The examples of the chapter: the law's helper lives returns true.
-/
import Derived.Test.YtpkhbglmbdpodaaDoorCCb
import Derived.Test.YtpkhbglmbdpodaaDoorCOp
import Derived.Lib.SlBytesConst
namespace Go.Proofs.YtpkhbglmbdpodaaDoor
open Go.RowKit
namespace C
open H
set_option linter.unusedVariables false

theorem lit_len {k : IntKind} {cs : Array Value} {zs : List Int} (h : cs.toList = zs.map (Value.int k)) : cs.size = zs.length := by
  have := congrArg List.length h
  simpa using this
theorem rd_lit (w : World) (e : TypeId) (cs : Array Value) (fr : Nat × Nat) (zs : List Int) (h : cs.toList = zs.map (Value.int .u8)) : RdI (w.alloc (.cells cs e fr)) (w.alloc (.cells cs e fr)).heap.size .u8 (some ⟨w.heap.size, 0, none⟩) zs := by
  intro j hj
  refine ⟨_, rfl, by simp, ?_⟩
  have h4 : (⟨w.heap.size, 0, none⟩ : Addr).add j = ⟨w.heap.size, j, none⟩ := by unfold Addr.add; split <;> simp_all
  rw [h4, cell_of_row _ w.heap.size j cs e fr (heap_alloc_new w _), ← Array.getElem?_toList, h]
  simp [hj]
theorem psum_lit (zs : List Int) (cs : Array Value) (n s : Nat) {fr : Nat × Nat} (w : World) (tb : Tab w) (hcs : cs.toList = zs.map (Value.int .u8)) (hb : Byt zs) (hl : zs.length = n) (hn : n ≤ 1000) (hs : sum (nats zs) = s) :
    Calls Tryd.prog 14 #[.slice (some ⟨w.heap.size, 0, none⟩) n n] (w.alloc (.cells cs 5 fr)) fun e w' => e = .returned (.int .u32 s) ∧ Below w.heap.size w w' := by
  have hB := (Below.refl w.heap.size w).alloc (Nat.le_refl _) (.cells cs 5 fr)
  refine (psum_same _ n n zs _ (tb.below tb.pos hB) hl (by omega) hb (rd_lit w _ cs fr zs hcs)).mono ?_
  rintro e w' ⟨rfl, rfl⟩
  exact ⟨by rw [hs], hB⟩
theorem pupd_lit (u : Nat) (zs : List Int) (cs : Array Value) (n s : Nat) {fr : Nat × Nat} (w : World) (tb : Tab w) (hu : u < 4294967296) (hcs : cs.toList = zs.map (Value.int .u8)) (hb : Byt zs) (hl : zs.length = n) (hn : n ≤ 1000) (hs : upd u (nats zs) = s) :
    Calls Tryd.prog 16 #[.int .u32 u, .slice (some ⟨w.heap.size, 0, none⟩) n n] (w.alloc (.cells cs 5 fr)) fun e w' => e = .returned (.int .u32 s) ∧ Below w.heap.size w w' := by
  have hB := (Below.refl w.heap.size w).alloc (Nat.le_refl _) (.cells cs 5 fr)
  refine (pupd_same u _ n n zs _ (tb.below tb.pos hB) hu hl (by omega) hb (rd_lit w _ cs fr zs hcs)).mono ?_
  rintro e w' ⟨rfl, rfl⟩
  exact ⟨by rw [hs], hB⟩
theorem popen_lit (zs : List Int) (cs : Array Value) (n : Nat) (xs : List Int) (c : Int) {fr : Nat × Nat} (w : World) (tb : Tab w) (hcs : cs.toList = zs.map (Value.int .u8)) (hb : Byt zs) (hl : zs.length = n) (hn : n ≤ 1000) (ho : openR zs = (xs, c)) :
    Calls Tryd.prog 21 #[.slice (some ⟨w.heap.size, 0, none⟩) n n] (w.alloc (.cells cs 5 fr)) fun e w' => ∃ Av cv, e = .returned (.tuple #[.slice Av xs.length cv, .int .i64 c]) ∧ RdI w' w'.heap.size .u8 Av xs ∧ Below w.heap.size w w' := by
  have hB := (Below.refl w.heap.size w).alloc (Nat.le_refl _) (.cells cs 5 fr)
  refine (popen_any _ n n zs _ (tb.below tb.pos hB) hl (by omega) ⟨Nat.le_refl _, by unfold maxLen; omega⟩ (fun h => by cases h) hb (rd_lit w _ cs fr zs hcs)).mono ?_
  rintro e w' ⟨Av, cv, rfl, hr, _, _, _, h2⟩
  rw [ho] at hr ⊢
  exact ⟨Av, cv, rfl, hr, hB.trans (h2.mono hB.size)⟩
theorem pseal_lit (zs : List Int) (cs : Array Value) (n m : Nat) (xs : List Int) {fr : Nat × Nat} (w : World) (tb : Tab w) (hcs : cs.toList = zs.map (Value.int .u8)) (hb : Byt zs) (hl : zs.length = n) (hn : n ≤ 1000) (hx : zs ++ ints (le4 (sum (nats zs))) = xs) (hm : xs.length = m) :
    Calls Tryd.prog 20 #[.slice (some ⟨w.heap.size, 0, none⟩) n n] (w.alloc (.cells cs 5 fr)) fun e w' => ∃ Av cv, e = .returned (.slice Av m cv) ∧ RdI w' w'.heap.size .u8 Av xs ∧ Below w.heap.size w w' := by
  have hB := (Below.refl w.heap.size w).alloc (Nat.le_refl _) (.cells cs 5 fr)
  refine (pseal_any _ n n zs _ (tb.below tb.pos hB) hl (by omega) ⟨Nat.le_refl _, by unfold maxLen; omega⟩ (fun h => by cases h) hb (rd_lit w _ cs fr zs hcs)).mono ?_
  rintro e w' ⟨v, rfl, ho, h2⟩
  rw [hx, hm] at ho
  obtain ⟨Av, cv, rfl⟩ := own_shape ho
  exact ⟨Av, cv, rfl, own_RdI ho, hB.trans (h2.mono hB.size)⟩
theorem ex1 : openR [97, 67, 190, 183, 232] = ([97], 0) := by decide +kernel
theorem ex2 : openR [1, 2, 3] = ([], 6) := by decide +kernel
theorem ex3 : openR [1, 0, 0, 0, 0] = ([], 8) := by decide +kernel
theorem ex4 : sum (nats [49, 50, 51, 52, 53, 54, 55, 56, 57]) = 3421780262 := by decide +kernel
theorem ex5 : sum (nats []) = 0 := by decide +kernel
theorem ex6 : sum (nats [97]) = 3904355907 := by decide +kernel
theorem ex7 : sum (nats [49, 50, 51, 52, 53]) = 3421846044 := by decide +kernel
theorem ex8 : upd 3421846044 (nats [54, 55, 56, 57]) = 3421780262 := by decide +kernel
theorem ex9 : [97] ++ ints (le4 (sum (nats [97]))) = [97, 67, 190, 183, 232] := by decide +kernel
theorem ex10 : comb 1 0 1 = 1996959894 := by decide +kernel
theorem ex11 : comb 1 2 0 = 3 := by decide +kernel
theorem byt_dec {zs : List Int} (h : (zs.all fun z => decide (0 ≤ z ∧ z < 256)) = true) : Byt zs := fun b hb => of_decide_eq_true (List.all_eq_true.1 h b hb)

set_option maxRecDepth 100000 in
set_option maxHeartbeats 4000000 in
theorem plives_any (w : World) (tb : Tab w) : Calls Tryd.prog 13 #[] w fun r w' => r = .returned (.bool true) ∧ Below w.heap.size w w' := by
  have hpos := tb.pos
  have HP := Lib.hid hpos
  have TB := Lib.hid tb
  have HB0 := Lib.hid (Below.refl w.heap.size w)
  clear tb hpos
  have kc := fun (w : World) (C : Array Value) (n c : Nat) => Lib.run_convert_bytes_const (P := Tryd.prog) w 22 5 C n c Tryd.underlying22 Tryd.underlying5
  go_enter Tryd.func13, Tryd.ntmps13
  go_wp2_with fail
  refine (popen_lit [97, 67, 190, 183, 232] #[.int .u8 97, .int .u8 67, .int .u8 190, .int .u8 183, .int .u8 232] 5 [97] 0 w (TB.out.below HP.out HB0.out) rfl (byt_dec rfl) rfl (by omega) ex1).mono ?_
  rintro r w1 ⟨Aa, ca, rfl, hra, hb⟩
  have HB1 := Lib.hid (HB0.out.trans (hb.mono HB0.out.size))
  have HC1 := Lib.hid (Below.refl w1.heap.size w1)
  clear hb
  have HRa := Lib.hid hra
  clear hra
  go_wp2_with fail
  refine (popen_lit [1, 2, 3] #[.int .u8 1, .int .u8 2, .int .u8 3] 3 [] 6 w1 (TB.out.below HP.out HB1.out) rfl (byt_dec rfl) rfl (by omega) ex2).mono ?_
  rintro r w2 ⟨Ab, cb, rfl, hrb, hb⟩
  have HB2 := Lib.hid (HB1.out.trans (hb.mono HB1.out.size))
  have HC2 := Lib.hid (HC1.out.trans (hb.mono HC1.out.size))
  clear hb
  have HRb := Lib.hid hrb
  clear hrb
  go_wp2_with fail
  refine (popen_lit [1, 0, 0, 0, 0] #[.int .u8 1, .int .u8 0, .int .u8 0, .int .u8 0, .int .u8 0] 5 [] 8 w2 (TB.out.below HP.out HB2.out) rfl (byt_dec rfl) rfl (by omega) ex3).mono ?_
  rintro r w3 ⟨Ac, cc, rfl, hrc, hb⟩
  have HB3 := Lib.hid (HB2.out.trans (hb.mono HB2.out.size))
  have HC3 := Lib.hid (HC2.out.trans (hb.mono HC2.out.size))
  clear hb
  have HRc := Lib.hid hrc
  clear hrc
  go_wp2_with fail
  refine (psum_lit [49, 50, 51, 52, 53, 54, 55, 56, 57] #[.int .u8 49, .int .u8 50, .int .u8 51, .int .u8 52, .int .u8 53, .int .u8 54, .int .u8 55, .int .u8 56, .int .u8 57] 9 3421780262 w3 (TB.out.below HP.out HB3.out) rfl (byt_dec rfl) rfl (by omega) ex4).mono ?_
  rintro r w4 ⟨rfl, hb⟩
  have HB4 := Lib.hid (HB3.out.trans (hb.mono HB3.out.size))
  have HC4 := Lib.hid (HC3.out.trans (hb.mono HC3.out.size))
  clear hb
  have h0 := psum_same none 0 0 [] w4 (TB.out.below HP.out HB4.out) rfl (by omega) (byt_dec rfl) RdI.nil
  rw [ex5] at h0
  go_wp2_with fail
  refine h0.mono ?_
  clear h0
  rintro r w5 ⟨rfl, hw5⟩
  have HB5 := Lib.hid (show Below w.heap.size w w5 by rw [hw5]; exact HB4.out)
  have HC5 := Lib.hid (show Below w1.heap.size w1 w5 by rw [hw5]; exact HC4.out)
  clear hw5
  go_wp2_with fail
  refine (psum_lit [97] #[.int .u8 97] 1 3904355907 w5 (TB.out.below HP.out HB5.out) rfl (byt_dec rfl) rfl (by omega) ex6).mono ?_
  rintro r w6 ⟨rfl, hb⟩
  have HB6 := Lib.hid (HB5.out.trans (hb.mono HB5.out.size))
  have HC6 := Lib.hid (HC5.out.trans (hb.mono HC5.out.size))
  clear hb
  go_wp2_with fail
  refine (psum_lit [49, 50, 51, 52, 53] #[.int .u8 49, .int .u8 50, .int .u8 51, .int .u8 52, .int .u8 53] 5 3421846044 w6 (TB.out.below HP.out HB6.out) rfl (byt_dec rfl) rfl (by omega) ex7).mono ?_
  rintro r w7 ⟨rfl, hb⟩
  have HB7 := Lib.hid (HB6.out.trans (hb.mono HB6.out.size))
  have HC7 := Lib.hid (HC6.out.trans (hb.mono HC6.out.size))
  clear hb
  go_wp2_with fail
  refine (pupd_lit 3421846044 [54, 55, 56, 57] #[.int .u8 54, .int .u8 55, .int .u8 56, .int .u8 57] 4 3421780262 w7 (TB.out.below HP.out HB7.out) (by decide) rfl (byt_dec rfl) rfl (by omega) ex8).mono ?_
  rintro r w8 ⟨rfl, hb⟩
  have HB8 := Lib.hid (HB7.out.trans (hb.mono HB7.out.size))
  have HC8 := Lib.hid (HC7.out.trans (hb.mono HC7.out.size))
  clear hb
  go_wp2_with fail
  refine (pseal_lit [97] #[.int .u8 97] 1 5 [97, 67, 190, 183, 232] w8 (TB.out.below HP.out HB8.out) rfl (byt_dec rfl) rfl (by omega) ex9 rfl).mono ?_
  rintro r w9 ⟨Ad, cd, rfl, hrd, hb⟩
  have HB9 := Lib.hid (HB8.out.trans (hb.mono HB8.out.size))
  have HC9 := Lib.hid (HC8.out.trans (hb.mono HC8.out.size))
  clear hb
  have cv1 : (convert 22 9 (.slice Ad 5 cd)).run Tryd.prog w9 = .ok (.string ⟨#[97, 67, 190, 183, 232]⟩) w9 := conv_str (bs := [97, 67, 190, 183, 232]) rfl hrd
  have cv2 : (convert 22 9 (.slice Aa 1 ca)).run Tryd.prog w9 = .ok (.string ⟨#[97]⟩) w9 := conv_str (bs := [97]) rfl (HRa.out.below HC9.out)
  go_wp2_with fail
  have h10 := pcomb_any 1 0 1 w9 (TB.out.below HP.out HB9.out) (by decide) (by decide) (by omega)
  rw [show (1 : Int).toNat = 1 from rfl, ex10] at h10
  refine h10.mono ?_
  clear h10
  rintro r w10 ⟨rfl, hb⟩
  have HB10 := Lib.hid (HB9.out.trans (hb.mono HB9.out.size))
  clear hb
  have h11 := pcomb_any 1 2 0 w10 (TB.out.below HP.out HB10.out) (by decide) (by decide) (by omega)
  rw [show (0 : Int).toNat = 0 from rfl, ex11] at h11
  go_wp2_with fail
  refine h11.mono ?_
  clear h11
  rintro r w11 ⟨rfl, hb⟩
  have HB11 := Lib.hid (HB10.out.trans (hb.mono HB10.out.size))
  clear hb
  go_wp2_with fail
  go_ret
  exact ⟨rfl, HB11.out⟩
end C
end Go.Proofs.YtpkhbglmbdpodaaDoor
