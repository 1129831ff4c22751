/-
  The examples of the chapter hold.
-/
import Derived.Test.YtdfokmhpnniphaaWWr
namespace Go.Proofs.Ytdfokmhpnniphaa
open Go.RowKit
namespace W
open H
set_option linter.unusedVariables false

theorem ex300 : encU 300 = [172, 2] := by rw [encU_ge (by decide), encU_lt (by decide)]; rfl
theorem exm3 : encU (zig (-3)) = [5] := by rw [show zig (-3) = 5 from rfl, encU_lt (by decide)]; rfl
theorem ex78 : encU 2 ++ [7, 8] = [2, 7, 8] := by rw [encU_lt (by decide)]; rfl
theorem exA : rU ([172, 2], 0) = (([], 0), 300) := by simp [rU, rd]
theorem exB : (rU ([128, 0], 0)).1.2 = 7 := by simp [rU, rd]
theorem exC : (rB ([2, 7, 8], 0) 1).1.2 = 2 := by simp [rB, rS, rU, rd]

theorem WAt.same {w w1 : World} {b : Nat} {v : Value} {bs : List Int} (h : WAt w b v bs) (hs : w.heap.size ≤ w1.heap.size) (hb : ∀ k, k < w.heap.size → w1.heap[k]? = w.heap[k]?) : WAt w1 b v bs := by
  refine ⟨(hb b (blk_lt h.blk)).trans h.blk, h.own.1, ?_⟩
  rcases h.own.2 with h2 | ⟨g, cap, cur, hv, hg, hh, hr⟩
  · exact .inl h2
  · exact .inr ⟨g, cap, cur, hv, hg, (hb g (blk_lt hh)).trans hh, hr⟩
theorem lit_at (W : World) (cs : Array Value) (zs : List Int) (h : cs.toList = zs.map (Value.int .u8)) : RdI (W.alloc (.cells cs 5)) (W.alloc (.cells cs 5)).heap.size .u8 (some ⟨W.heap.size, 0, none⟩) zs := RdI_lit W .u8 5 cs zs h

theorem RAt.same {w w' : World} {b : Nat} {A : Option Addr} {n c : Nat} {bs : List Int} {k : Nat} {e : Int} (h : RAt w b A n c bs k e) (hb : Below w.heap.size w w') : RAt w' b A n c bs k e :=
  h.keep hb.size (hb.block _ (blk_lt h.blk)) fun a ha => hb.block _ (h.inb a ha)
theorem RAt.apart {w w' : World} {b b' : Nat} {A : Option Addr} {n c : Nat} {bs : List Int} {k : Nat} {e : Int} (h : RAt w b A n c bs k e) (hv : Save (· = b') w w') (hb : b ≠ b') (hA : ∀ a, A = some a → a.block ≠ b') : RAt w' b A n c bs k e :=
  h.keep hv.size (hv.block _ (blk_lt h.blk) hb) fun a ha => hv.block _ (h.inb a ha) (hA a ha)

set_option maxRecDepth 100000 in
set_option maxHeartbeats 4000000 in
theorem lives_any (w : World) : Calls Try.prog 16 #[] w fun r w' => r = .returned (.bool true) ∧ Below w.heap.size w w' := by
  have hb0 := (Below.refl w.heap.size w).alloc (Nat.le_refl _) (.cells #[.slice none 0 0] 66)
  have hw0 : WAt (w.alloc (.cells #[.slice none 0 0] 66)) w.heap.size (.slice none 0 0) [] := ⟨heap_alloc_new w _, World.ownsRow_nil _ _ _ _⟩
  have h1 := uint_wr 300 (by decide) hw0 (by decide)
  rw [ex300] at h1
  have HB0 := Lib.hid hb0
  clear hw0 hb0
  go_enter Try.func16, Try.ntmps16
  go_wp2_with fail
  refine h1.mono ?_
  clear h1
  rintro r w1 ⟨rfl, v1, hw1, hs1⟩
  have h2 := int_wr (-3) (by decide) hw1 (by decide)
  rw [exm3] at h2
  have HS1 := Lib.hid hs1
  clear hw1 hs1
  go_wp2_with fail
  refine h2.mono ?_
  clear h2
  rintro r w2 ⟨rfl, v2, hw2, hs2⟩
  have hA2 := (Below.refl w2.heap.size w2).alloc (Nat.le_refl _) (.cells #[.int .u8 7, .int .u8 8] 5)
  have h3 := bytes_wr (some ⟨w2.heap.size, 0, none⟩) 2 2 [7, 8] (hw2.keep hA2) rfl (by decide) (fun h => by cases h) (lit_at w2 _ [7, 8] rfl) (fun a ha _ hf => by
    injection ha with ha
    subst ha
    rcases hf with h | h
    · have := blk_lt hw2.blk; simp only at h; omega
    · have := hw2.vlt _ h; simp only at this; omega)
  rw [ex78] at h3
  have HS2 := Lib.hid ((HS1.out.trans hs2).trans (WStep.pre (WStep.refl _ _ _) hA2))
  clear hw2 hs2 HS1 hA2
  go_wp2_with fail
  refine h3.mono ?_
  clear h3
  rintro r w3 ⟨rfl, v3, hw3, hs3⟩
  have HW3 := Lib.hid (show WAt w3 w.heap.size v3 [172, 2, 5, 2, 7, 8] from hw3)
  have hs03 := HS2.out.trans hs3
  have hB3 : Below w.heap.size w w3 := HB0.out.trans (hs03.below HB0.out.size (Nat.le_refl _) (fun k hk => by simp [Value.ownBlock] at hk))
  have HB3 := Lib.hid hB3
  clear hw3 hs3 HS2 hs03 hB3 HB0
  have h4 := new_any (some ⟨w3.heap.size, 0, none⟩) 2 2 [172, 2] (w3.alloc (.cells #[.int .u8 172, .int .u8 2] 5)) rfl (by decide) (fun h => by cases h) (by intro x hx; simp at hx; omega) (lit_at w3 _ _ rfl)
  go_wp2_with fail
  refine h4.mono ?_
  clear h4
  rintro r w4 ⟨b4, A4, c4, rfl, hr4, hb4, hA4, hB4⟩
  have hB4 := ((Below.refl w3.heap.size w3).alloc (Nat.le_refl _) (.cells #[.int .u8 172, .int .u8 2] 5)).trans (hB4.mono (by simp))
  have HR4 := Lib.hid hr4
  have HB4 := Lib.hid hB4
  have hb4' : w3.heap.size ≤ b4 := by simp at hb4; omega
  have HA4 := Lib.hid (show ∀ a, A4 = some a → w3.heap.size ≤ a.block from fun a ha => by have := hA4 a ha; simp at this; omega)
  clear hr4 hB4 hb4 hA4
  have h5 := new_any (some ⟨w4.heap.size, 0, none⟩) 2 2 [128, 0] (w4.alloc (.cells #[.int .u8 128, .int .u8 0] 5)) rfl (by decide) (fun h => by cases h) (by intro x hx; simp at hx; omega) (lit_at w4 _ _ rfl)
  go_wp2_with fail
  refine h5.mono ?_
  clear h5
  rintro r w5 ⟨b5, A5, c5, rfl, hr5, hb5, hA5, hB5⟩
  have hB5 := ((Below.refl w4.heap.size w4).alloc (Nat.le_refl _) (.cells #[.int .u8 128, .int .u8 0] 5)).trans (hB5.mono (by simp))
  have HR5 := Lib.hid hr5
  have HB5 := Lib.hid hB5
  have hb5' : w4.heap.size ≤ b5 := by simp at hb5; omega
  have HA5 := Lib.hid (show ∀ a, A5 = some a → w4.heap.size ≤ a.block from fun a ha => by have := hA5 a ha; simp at this; omega)
  clear hr5 hB5 hb5 hA5
  have h6 := new_any (some ⟨w5.heap.size, 0, none⟩) 3 3 [2, 7, 8] (w5.alloc (.cells #[.int .u8 2, .int .u8 7, .int .u8 8] 5)) rfl (by decide) (fun h => by cases h) (by intro x hx; simp at hx; omega) (lit_at w5 _ _ rfl)
  go_wp2_with fail
  refine h6.mono ?_
  clear h6
  rintro r w6 ⟨b6, A6, c6, rfl, hr6, hb6, hA6, hB6⟩
  have hB6 := ((Below.refl w5.heap.size w5).alloc (Nat.le_refl _) (.cells #[.int .u8 2, .int .u8 7, .int .u8 8] 5)).trans (hB6.mono (by simp))
  have HR6 := Lib.hid hr6
  have HB6 := Lib.hid hB6
  have hb6' : w5.heap.size ≤ b6 := by simp at hb6; omega
  have HA6 := Lib.hid (show ∀ a, A6 = some a → w5.heap.size ≤ a.block from fun a ha => by have := hA6 a ha; simp at this; omega)
  clear hr6 hB6 hb6 hA6
  have e0 : ([172, 2], (0 : Int)) = (([172, 2], 0) : St) := rfl
  have hr46 : RAt w6 b4 A4 2 c4 [172, 2] 0 0 := HR4.out.same (HB5.out.trans (HB6.out.mono HB5.out.size))
  have h7 := uint_rd (s := ([172, 2], 0)) hr46 ⟨rfl, fun _ => rfl⟩
  rw [exA] at h7
  have hl4 := blk_lt HR4.out.blk
  have HIA4 := Lib.hid HR4.out.inb
  clear hr46 HR4
  go_wp2_with fail
  refine h7.mono ?_
  clear h7
  rintro r w7 ⟨rfl, k7, e7, hr7, hs7, hv7⟩
  have HR7 := Lib.hid hr7
  have HS7 := Lib.hid hs7
  have HV7 := Lib.hid hv7
  clear hr7 hs7 hv7
  have hr57 : RAt w7 b5 A5 2 c5 [128, 0] 0 0 := (HR5.out.same HB6.out).apart HV7.out (by omega) (fun a ha => by have := HA5.out a ha; omega)
  have h8 := uint_rd (s := ([128, 0], 0)) hr57 ⟨rfl, fun _ => rfl⟩
  have hl5 := blk_lt HR5.out.blk
  have HIA5 := Lib.hid HR5.out.inb
  clear hr57 HR5
  go_wp2_with fail
  refine h8.mono ?_
  clear h8
  rintro r w8 ⟨rfl, k8, e8, hr8, hs8, hv8⟩
  have HR8 := Lib.hid hr8
  have HS8 := Lib.hid (show (7 : Int) = e8 from exB.symm.trans hs8.1)
  have HV8 := Lib.hid hv8
  clear hr8 hs8 hv8
  have hr68 : RAt w8 b6 A6 3 c6 [2, 7, 8] 0 0 := (HR6.out.apart HV7.out (by omega) (fun a ha => by have := HA6.out a ha; have := HB5.out.size; omega)).apart HV8.out (by omega) (fun a ha => by have := HA6.out a ha; omega)
  have h9 := bytes_rd (s := ([2, 7, 8], 0)) 1 (by decide) hr68 ⟨rfl, fun _ => rfl⟩
  have hl6 := blk_lt HR6.out.blk
  clear hr68 HR6
  go_wp2_with fail
  refine h9.mono ?_
  clear h9
  rintro r w9 ⟨v9, rfl, _, k9, e9, hr9, hs9, hv9⟩
  have HR9 := Lib.hid hr9
  have HS9 := Lib.hid (show (2 : Int) = e9 from exC.symm.trans hs9.1)
  have HV9 := Lib.hid hv9
  clear hr9 hs9 hv9
  have z3 := HB4.out.size
  have z4 := HB5.out.size
  have z5 := HB6.out.size
  have z6 := HV7.out.size
  have z7 := HV8.out.size
  have z8 := HV9.out.size
  have hB39 : Below w3.heap.size w3 w9 := ((((HB4.out.trans (HB5.out.mono z3)).trans (HB6.out.mono (by omega))).trans (HV7.out.below (by omega) (fun k hk => by omega))).trans (HV8.out.below (by omega) (fun k hk => by omega))).trans (HV9.out.below (by omega) (fun k hk => by omega))
  have h10 := done_wr (HW3.out.keep hB39) (by decide)
  have HB39 := Lib.hid hB39
  clear hB39
  go_wp2_with fail
  refine h10.mono ?_
  clear h10
  rintro r w10 ⟨v10, rfl, ho, hB10⟩
  obtain ⟨A10, c10, rfl⟩ := own_shape ho
  have hBL := (Below.refl w10.heap.size w10).alloc (Nat.le_refl _) (.cells #[.int .u8 172, .int .u8 2, .int .u8 5, .int .u8 2, .int .u8 7, .int .u8 8] 5)
  have h11 := sameB_any A10 (some ⟨w10.heap.size, 0, none⟩) 6 6 c10 6 [172, 2, 5, 2, 7, 8] [172, 2, 5, 2, 7, 8] (w10.alloc (.cells #[.int .u8 172, .int .u8 2, .int .u8 5, .int .u8 2, .int .u8 7, .int .u8 8] 5)) rfl rfl (by decide) (((own_RdI ho).below hBL).more hBL.size) (lit_at w10 _ _ rfl)
  rw [decide_eq_true rfl] at h11
  have HBL := Lib.hid hBL
  have HB10 := Lib.hid hB10
  clear ho hBL hB10
  go_wp2_with fail
  refine h11.mono ?_
  clear h11
  rintro r w12 ⟨rfl, hB12⟩
  have hB9 : Below w9.heap.size w9 w12 := HB10.out.trans ((HBL.out.trans (hB12.mono HBL.out.size)).mono HB10.out.size)
  have hR4 : RAt w12 b4 A4 2 c4 [172, 2] k7 e7 := (((HR7.out.apart HV8.out (by omega) (fun a ha => by have := HIA4.out a ha; omega)).apart HV9.out (by omega) (fun a ha => by have := HIA4.out a ha; omega))).same hB9
  have hR5 : RAt w12 b5 A5 2 c5 [128, 0] k8 e8 := (HR8.out.apart HV9.out (by omega) (fun a ha => by have := HIA5.out a ha; omega)).same hB9
  have hR6 : RAt w12 b6 A6 3 c6 [2, 7, 8] k9 e9 := HR9.out.same hB9
  have h13 := end_rd hR4 HS7.out
  rw [show endOf (([], 0) : St) = 0 from rfl] at h13
  have h14 := fun m => err_any (hR5.drewN m)
  have h15 := fun m => err_any (hR6.drewN m)
  rw [← HS8.out] at h14
  rw [← HS9.out] at h15
  have HB9 := Lib.hid hB9
  have H14 := Lib.hid h14
  have H15 := Lib.hid h15
  clear hB9 hB12 hR4 hR5 hR6 h14 h15
  go_wp2_with fail
  refine h13.mono ?_
  clear h13
  rintro r w13 ⟨rfl, m, rfl⟩
  have h14 := H14.out m
  have h15 := H15.out m
  go_wp2_with fail
  refine h14.mono ?_
  rintro r w14 ⟨rfl, rfl⟩
  go_wp2_with fail
  refine h15.mono ?_
  rintro r w15 ⟨rfl, rfl⟩
  go_wp2_with fail
  go_ret
  exact ⟨rfl, below_drewN (HB3.out.trans ((HB39.out.trans (HB9.out.mono (by omega))).mono HB3.out.size)) m⟩

end W
end Go.Proofs.Ytdfokmhpnniphaa
