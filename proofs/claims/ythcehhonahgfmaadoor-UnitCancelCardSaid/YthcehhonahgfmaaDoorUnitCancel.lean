/-
  For all two quantities, UnitCancel returns true: of valid ones Sub takes back Add, and Div takes back Mul by a quantity other than 0.
-/
import Derived.Test.YthcehhonahgfmaaDoorULaw
namespace Go.Proofs.YthcehhonahgfmaaDoor.unitCancel
open Go.ChangeShapes Go.WideShapes Go.ChangeAt Go.RowKit
open Go.ChangeMaps (open_string shut_string)
set_option linter.unusedVariables false

set_option maxRecDepth 100000 in
set_option maxHeartbeats 1000000 in
theorem walk (x0 : U.Qt) (x1 : U.Qt) (w : World) (tb : U.Tab w) (ok0 : x0.ok) (ok1 : x1.ok) :
    Calls Tryd.prog 11 #[.agg #[.int .i64 x0.n, .int .i64 x0.m.e, .int .i64 x0.m.d, .int .i64 x0.m.t, .int .i64 x0.m.a, .int .i64 x0.m.h], .agg #[.int .i64 x1.n, .int .i64 x1.m.e, .int .i64 x1.m.d, .int .i64 x1.m.t, .int .i64 x1.m.a, .int .i64 x1.m.h]] w fun e w' => e = .returned (.bool true) ∧ Below w.heap.size w w' := by
  have TB := Lib.hid tb
  have HLV := Lib.hid (fun W (h : Below w.heap.size w W) => U.ulives_any W (TB.out.below h))
  have HV0 := Lib.hid (fun W => U.rvalid_any x0 W)
  have HV1 := Lib.hid (fun W => U.rvalid_any x1 W)
  clear tb
  by_cases hv0 : x0.valid
  · rw [decide_eq_true hv0] at HV0
    by_cases hv1 : x1.valid
    · rw [decide_eq_true hv1] at HV1
      have HA := Lib.hid (fun W (h : Below w.heap.size w W) => U.padd_w x0 x1 W (TB.out.below h) hv0 hv1)
      have HM := Lib.hid (fun W (h : Below w.heap.size w W) => U.pmul_w x0 x1 W (TB.out.below h) hv0 hv1)
      have hadd := U.add_back (y := x1) hv0
      have hmul := U.mul_back (y := x1) hv0
      generalize U.addQ x0 x1 = A at *
      generalize U.mulQ x0 x1 = B at *
      obtain ⟨s, e⟩ := A
      obtain ⟨p, f⟩ := B
      dsimp only at HA HM hadd hmul
      by_cases he : e = 0
      · subst he
        obtain ⟨hsv, hs⟩ := hadd rfl
        have HS := Lib.hid (fun W (h : Below w.heap.size w W) => U.psub_w s x1 W (TB.out.below h) hsv hv1)
        rw [hs] at HS
        dsimp only at HS
        clear hadd hsv hs
        by_cases hf : f = 0 ∧ x1.n ≠ 0
        · obtain ⟨rfl, hn⟩ := hf
          obtain ⟨hpv, hd⟩ := hmul hn rfl
          have HD := Lib.hid (fun W (h : Below w.heap.size w W) => U.pdiv_w p x1 W (TB.out.below h) hpv hv1)
          rw [hd] at HD
          dsimp only at HD
          have hnb : (x1.n != 0) = true := by simp [hn]
          clear hmul hpv hd hn hv0 hv1 ok0 ok1
          go_enter Tryd.func11, Tryd.ntmps11
          go_wp2_with fail
          refine (HV0.out _).mono ?_
          rintro r w1 ⟨rfl, hB⟩
          obtain ⟨hc1, hf1⟩ := U.bcell hB
          have hsz := hB.size
          try simp at hsz
          have hz1_0 : w.heap.size < w1.heap.size := by omega
          have hz1_1 : w.heap.size + 1 < w1.heap.size := by omega
          clear hsz
          have HB1 := Lib.hid ((U.bel2 w _ _).trans (hB.mono (U.bel2 w _ _).size))
          clear hB
          go_wp2_with fail
          refine (HV1.out _).mono ?_
          rintro r w2 ⟨rfl, hB⟩
          obtain ⟨hc2, hf2⟩ := U.bcell hB
          have hsz := hB.size
          try simp at hsz
          have hz2_0 : w.heap.size < w2.heap.size := by omega
          have hz2_1 : w.heap.size + 1 < w2.heap.size := by omega
          clear hsz
          have HB2 := Lib.hid ((HB1.out).trans (hB.mono (HB1.out).size))
          clear hB
          go_wp2_with fail
          refine (HA.out _ (HB2.out)).mono ?_
          rintro r w3 ⟨rfl, hB⟩
          obtain ⟨hc3, hf3⟩ := U.bcell hB
          have hsz := hB.size
          try simp at hsz
          have hz3_0 : w.heap.size < w3.heap.size := by omega
          have hz3_1 : w.heap.size + 1 < w3.heap.size := by omega
          clear hsz
          have HB3 := Lib.hid ((HB2.out).trans (hB.mono (HB2.out).size))
          clear hB
          go_wp2_with fail
          refine (HS.out _ (HB3.out.alloc HB3.out.size _)).mono ?_
          rintro r w4 ⟨rfl, hB⟩
          obtain ⟨hc4, hf4⟩ := U.bcell hB
          have hsz := hB.size
          try simp at hsz
          have hz4_0 : w.heap.size < w4.heap.size := by omega
          have hz4_1 : w.heap.size + 1 < w4.heap.size := by omega
          have hz4_2 : w3.heap.size < w4.heap.size := by omega
          clear hsz
          have HB4 := Lib.hid ((HB3.out.alloc HB3.out.size _).trans (hB.mono (HB3.out.alloc HB3.out.size _).size))
          clear hB
          go_wp2_with fail
          refine (HM.out _ (HB4.out.alloc HB4.out.size _)).mono ?_
          rintro r w5 ⟨rfl, hB⟩
          obtain ⟨hc5, hf5⟩ := U.bcell hB
          have hsz := hB.size
          try simp at hsz
          have hz5_0 : w.heap.size < w5.heap.size := by omega
          have hz5_1 : w.heap.size + 1 < w5.heap.size := by omega
          have hz5_2 : w3.heap.size < w5.heap.size := by omega
          have hz5_3 : w4.heap.size < w5.heap.size := by omega
          clear hsz
          have HB5 := Lib.hid ((HB4.out.alloc HB4.out.size _).trans (hB.mono (HB4.out.alloc HB4.out.size _).size))
          clear hB
          go_wp2_with fail
          refine (HD.out _ (HB5.out.alloc HB5.out.size _)).mono ?_
          rintro r w6 ⟨rfl, hB⟩
          obtain ⟨hc6, hf6⟩ := U.bcell hB
          have hsz := hB.size
          try simp at hsz
          have hz6_0 : w.heap.size < w6.heap.size := by omega
          have hz6_1 : w.heap.size + 1 < w6.heap.size := by omega
          have hz6_2 : w3.heap.size < w6.heap.size := by omega
          have hz6_3 : w4.heap.size < w6.heap.size := by omega
          have hz6_4 : w5.heap.size < w6.heap.size := by omega
          clear hsz
          have HB6 := Lib.hid ((HB5.out.alloc HB5.out.size _).trans (hB.mono (HB5.out.alloc HB5.out.size _).size))
          clear hB
          go_wp2_with fail
          refine (HLV.out _ (HB6.out.alloc HB6.out.size _)).mono ?_
          rintro r w7 ⟨rfl, hB⟩
          have HB7 := Lib.hid ((HB6.out.alloc HB6.out.size _).trans (hB.mono (HB6.out.alloc HB6.out.size _).size))
          clear hB
          go_wp2_with fail
          go_ret
          exact ⟨rfl, HB7.out⟩
        · by_cases hf0 : f = 0
          · subst hf0
            have hn : x1.n = 0 := by by_cases h : x1.n = 0; exact h; exact absurd ⟨rfl, h⟩ hf
            have hnb : (x1.n != 0) = false := by simp [hn]
            clear hmul hf hn hv0 hv1 ok0 ok1
            go_enter Tryd.func11, Tryd.ntmps11
            go_wp2_with fail
            refine (HV0.out _).mono ?_
            rintro r w1 ⟨rfl, hB⟩
            obtain ⟨hc1, hf1⟩ := U.bcell hB
            have hsz := hB.size
            try simp at hsz
            have hz1_0 : w.heap.size < w1.heap.size := by omega
            have hz1_1 : w.heap.size + 1 < w1.heap.size := by omega
            clear hsz
            have HB1 := Lib.hid ((U.bel2 w _ _).trans (hB.mono (U.bel2 w _ _).size))
            clear hB
            go_wp2_with fail
            refine (HV1.out _).mono ?_
            rintro r w2 ⟨rfl, hB⟩
            obtain ⟨hc2, hf2⟩ := U.bcell hB
            have hsz := hB.size
            try simp at hsz
            have hz2_0 : w.heap.size < w2.heap.size := by omega
            have hz2_1 : w.heap.size + 1 < w2.heap.size := by omega
            clear hsz
            have HB2 := Lib.hid ((HB1.out).trans (hB.mono (HB1.out).size))
            clear hB
            go_wp2_with fail
            refine (HA.out _ (HB2.out)).mono ?_
            rintro r w3 ⟨rfl, hB⟩
            obtain ⟨hc3, hf3⟩ := U.bcell hB
            have hsz := hB.size
            try simp at hsz
            have hz3_0 : w.heap.size < w3.heap.size := by omega
            have hz3_1 : w.heap.size + 1 < w3.heap.size := by omega
            clear hsz
            have HB3 := Lib.hid ((HB2.out).trans (hB.mono (HB2.out).size))
            clear hB
            go_wp2_with fail
            refine (HS.out _ (HB3.out.alloc HB3.out.size _)).mono ?_
            rintro r w4 ⟨rfl, hB⟩
            obtain ⟨hc4, hf4⟩ := U.bcell hB
            have hsz := hB.size
            try simp at hsz
            have hz4_0 : w.heap.size < w4.heap.size := by omega
            have hz4_1 : w.heap.size + 1 < w4.heap.size := by omega
            have hz4_2 : w3.heap.size < w4.heap.size := by omega
            clear hsz
            have HB4 := Lib.hid ((HB3.out.alloc HB3.out.size _).trans (hB.mono (HB3.out.alloc HB3.out.size _).size))
            clear hB
            go_wp2_with fail
            refine (HM.out _ (HB4.out.alloc HB4.out.size _)).mono ?_
            rintro r w5 ⟨rfl, hB⟩
            obtain ⟨hc5, hf5⟩ := U.bcell hB
            have hsz := hB.size
            try simp at hsz
            have hz5_0 : w.heap.size < w5.heap.size := by omega
            have hz5_1 : w.heap.size + 1 < w5.heap.size := by omega
            have hz5_2 : w3.heap.size < w5.heap.size := by omega
            have hz5_3 : w4.heap.size < w5.heap.size := by omega
            clear hsz
            have HB5 := Lib.hid ((HB4.out.alloc HB4.out.size _).trans (hB.mono (HB4.out.alloc HB4.out.size _).size))
            clear hB
            go_wp2_with fail
            refine (HLV.out _ (HB5.out.alloc HB5.out.size _)).mono ?_
            rintro r w6 ⟨rfl, hB⟩
            have HB6 := Lib.hid ((HB5.out.alloc HB5.out.size _).trans (hB.mono (HB5.out.alloc HB5.out.size _).size))
            clear hB
            go_wp2_with fail
            go_ret
            exact ⟨rfl, HB6.out⟩
          · have hfb : (f == 0) = false := by simp [hf0]
            clear hmul hf hf0 hv0 hv1 ok0 ok1
            go_enter Tryd.func11, Tryd.ntmps11
            go_wp2_with fail
            refine (HV0.out _).mono ?_
            rintro r w1 ⟨rfl, hB⟩
            obtain ⟨hc1, hf1⟩ := U.bcell hB
            have hsz := hB.size
            try simp at hsz
            have hz1_0 : w.heap.size < w1.heap.size := by omega
            have hz1_1 : w.heap.size + 1 < w1.heap.size := by omega
            clear hsz
            have HB1 := Lib.hid ((U.bel2 w _ _).trans (hB.mono (U.bel2 w _ _).size))
            clear hB
            go_wp2_with fail
            refine (HV1.out _).mono ?_
            rintro r w2 ⟨rfl, hB⟩
            obtain ⟨hc2, hf2⟩ := U.bcell hB
            have hsz := hB.size
            try simp at hsz
            have hz2_0 : w.heap.size < w2.heap.size := by omega
            have hz2_1 : w.heap.size + 1 < w2.heap.size := by omega
            clear hsz
            have HB2 := Lib.hid ((HB1.out).trans (hB.mono (HB1.out).size))
            clear hB
            go_wp2_with fail
            refine (HA.out _ (HB2.out)).mono ?_
            rintro r w3 ⟨rfl, hB⟩
            obtain ⟨hc3, hf3⟩ := U.bcell hB
            have hsz := hB.size
            try simp at hsz
            have hz3_0 : w.heap.size < w3.heap.size := by omega
            have hz3_1 : w.heap.size + 1 < w3.heap.size := by omega
            clear hsz
            have HB3 := Lib.hid ((HB2.out).trans (hB.mono (HB2.out).size))
            clear hB
            go_wp2_with fail
            refine (HS.out _ (HB3.out.alloc HB3.out.size _)).mono ?_
            rintro r w4 ⟨rfl, hB⟩
            obtain ⟨hc4, hf4⟩ := U.bcell hB
            have hsz := hB.size
            try simp at hsz
            have hz4_0 : w.heap.size < w4.heap.size := by omega
            have hz4_1 : w.heap.size + 1 < w4.heap.size := by omega
            have hz4_2 : w3.heap.size < w4.heap.size := by omega
            clear hsz
            have HB4 := Lib.hid ((HB3.out.alloc HB3.out.size _).trans (hB.mono (HB3.out.alloc HB3.out.size _).size))
            clear hB
            go_wp2_with fail
            refine (HM.out _ (HB4.out.alloc HB4.out.size _)).mono ?_
            rintro r w5 ⟨rfl, hB⟩
            obtain ⟨hc5, hf5⟩ := U.bcell hB
            have hsz := hB.size
            try simp at hsz
            have hz5_0 : w.heap.size < w5.heap.size := by omega
            have hz5_1 : w.heap.size + 1 < w5.heap.size := by omega
            have hz5_2 : w3.heap.size < w5.heap.size := by omega
            have hz5_3 : w4.heap.size < w5.heap.size := by omega
            clear hsz
            have HB5 := Lib.hid ((HB4.out.alloc HB4.out.size _).trans (hB.mono (HB4.out.alloc HB4.out.size _).size))
            clear hB
            go_wp2_with fail
            refine (HLV.out _ (HB5.out.alloc HB5.out.size _)).mono ?_
            rintro r w6 ⟨rfl, hB⟩
            have HB6 := Lib.hid ((HB5.out.alloc HB5.out.size _).trans (hB.mono (HB5.out.alloc HB5.out.size _).size))
            clear hB
            go_wp2_with fail
            go_ret
            exact ⟨rfl, HB6.out⟩
      · have heb : (e == 0) = false := by simp [he]
        clear hadd he
        by_cases hf : f = 0 ∧ x1.n ≠ 0
        · obtain ⟨rfl, hn⟩ := hf
          obtain ⟨hpv, hd⟩ := hmul hn rfl
          have HD := Lib.hid (fun W (h : Below w.heap.size w W) => U.pdiv_w p x1 W (TB.out.below h) hpv hv1)
          rw [hd] at HD
          dsimp only at HD
          have hnb : (x1.n != 0) = true := by simp [hn]
          clear hmul hpv hd hn hv0 hv1 ok0 ok1
          go_enter Tryd.func11, Tryd.ntmps11
          go_wp2_with fail
          refine (HV0.out _).mono ?_
          rintro r w1 ⟨rfl, hB⟩
          obtain ⟨hc1, hf1⟩ := U.bcell hB
          have hsz := hB.size
          try simp at hsz
          have hz1_0 : w.heap.size < w1.heap.size := by omega
          have hz1_1 : w.heap.size + 1 < w1.heap.size := by omega
          clear hsz
          have HB1 := Lib.hid ((U.bel2 w _ _).trans (hB.mono (U.bel2 w _ _).size))
          clear hB
          go_wp2_with fail
          refine (HV1.out _).mono ?_
          rintro r w2 ⟨rfl, hB⟩
          obtain ⟨hc2, hf2⟩ := U.bcell hB
          have hsz := hB.size
          try simp at hsz
          have hz2_0 : w.heap.size < w2.heap.size := by omega
          have hz2_1 : w.heap.size + 1 < w2.heap.size := by omega
          clear hsz
          have HB2 := Lib.hid ((HB1.out).trans (hB.mono (HB1.out).size))
          clear hB
          go_wp2_with fail
          refine (HA.out _ (HB2.out)).mono ?_
          rintro r w3 ⟨rfl, hB⟩
          obtain ⟨hc3, hf3⟩ := U.bcell hB
          have hsz := hB.size
          try simp at hsz
          have hz3_0 : w.heap.size < w3.heap.size := by omega
          have hz3_1 : w.heap.size + 1 < w3.heap.size := by omega
          clear hsz
          have HB3 := Lib.hid ((HB2.out).trans (hB.mono (HB2.out).size))
          clear hB
          go_wp2_with fail
          refine (HM.out _ (HB3.out.alloc HB3.out.size _)).mono ?_
          rintro r w4 ⟨rfl, hB⟩
          obtain ⟨hc4, hf4⟩ := U.bcell hB
          have hsz := hB.size
          try simp at hsz
          have hz4_0 : w.heap.size < w4.heap.size := by omega
          have hz4_1 : w.heap.size + 1 < w4.heap.size := by omega
          have hz4_2 : w3.heap.size < w4.heap.size := by omega
          clear hsz
          have HB4 := Lib.hid ((HB3.out.alloc HB3.out.size _).trans (hB.mono (HB3.out.alloc HB3.out.size _).size))
          clear hB
          go_wp2_with fail
          refine (HD.out _ (HB4.out.alloc HB4.out.size _)).mono ?_
          rintro r w5 ⟨rfl, hB⟩
          obtain ⟨hc5, hf5⟩ := U.bcell hB
          have hsz := hB.size
          try simp at hsz
          have hz5_0 : w.heap.size < w5.heap.size := by omega
          have hz5_1 : w.heap.size + 1 < w5.heap.size := by omega
          have hz5_2 : w3.heap.size < w5.heap.size := by omega
          have hz5_3 : w4.heap.size < w5.heap.size := by omega
          clear hsz
          have HB5 := Lib.hid ((HB4.out.alloc HB4.out.size _).trans (hB.mono (HB4.out.alloc HB4.out.size _).size))
          clear hB
          go_wp2_with fail
          refine (HLV.out _ (HB5.out.alloc HB5.out.size _)).mono ?_
          rintro r w6 ⟨rfl, hB⟩
          have HB6 := Lib.hid ((HB5.out.alloc HB5.out.size _).trans (hB.mono (HB5.out.alloc HB5.out.size _).size))
          clear hB
          go_wp2_with fail
          go_ret
          exact ⟨rfl, HB6.out⟩
        · by_cases hf0 : f = 0
          · subst hf0
            have hn : x1.n = 0 := by by_cases h : x1.n = 0; exact h; exact absurd ⟨rfl, h⟩ hf
            have hnb : (x1.n != 0) = false := by simp [hn]
            clear hmul hf hn hv0 hv1 ok0 ok1
            go_enter Tryd.func11, Tryd.ntmps11
            go_wp2_with fail
            refine (HV0.out _).mono ?_
            rintro r w1 ⟨rfl, hB⟩
            obtain ⟨hc1, hf1⟩ := U.bcell hB
            have hsz := hB.size
            try simp at hsz
            have hz1_0 : w.heap.size < w1.heap.size := by omega
            have hz1_1 : w.heap.size + 1 < w1.heap.size := by omega
            clear hsz
            have HB1 := Lib.hid ((U.bel2 w _ _).trans (hB.mono (U.bel2 w _ _).size))
            clear hB
            go_wp2_with fail
            refine (HV1.out _).mono ?_
            rintro r w2 ⟨rfl, hB⟩
            obtain ⟨hc2, hf2⟩ := U.bcell hB
            have hsz := hB.size
            try simp at hsz
            have hz2_0 : w.heap.size < w2.heap.size := by omega
            have hz2_1 : w.heap.size + 1 < w2.heap.size := by omega
            clear hsz
            have HB2 := Lib.hid ((HB1.out).trans (hB.mono (HB1.out).size))
            clear hB
            go_wp2_with fail
            refine (HA.out _ (HB2.out)).mono ?_
            rintro r w3 ⟨rfl, hB⟩
            obtain ⟨hc3, hf3⟩ := U.bcell hB
            have hsz := hB.size
            try simp at hsz
            have hz3_0 : w.heap.size < w3.heap.size := by omega
            have hz3_1 : w.heap.size + 1 < w3.heap.size := by omega
            clear hsz
            have HB3 := Lib.hid ((HB2.out).trans (hB.mono (HB2.out).size))
            clear hB
            go_wp2_with fail
            refine (HM.out _ (HB3.out.alloc HB3.out.size _)).mono ?_
            rintro r w4 ⟨rfl, hB⟩
            obtain ⟨hc4, hf4⟩ := U.bcell hB
            have hsz := hB.size
            try simp at hsz
            have hz4_0 : w.heap.size < w4.heap.size := by omega
            have hz4_1 : w.heap.size + 1 < w4.heap.size := by omega
            have hz4_2 : w3.heap.size < w4.heap.size := by omega
            clear hsz
            have HB4 := Lib.hid ((HB3.out.alloc HB3.out.size _).trans (hB.mono (HB3.out.alloc HB3.out.size _).size))
            clear hB
            go_wp2_with fail
            refine (HLV.out _ (HB4.out.alloc HB4.out.size _)).mono ?_
            rintro r w5 ⟨rfl, hB⟩
            have HB5 := Lib.hid ((HB4.out.alloc HB4.out.size _).trans (hB.mono (HB4.out.alloc HB4.out.size _).size))
            clear hB
            go_wp2_with fail
            go_ret
            exact ⟨rfl, HB5.out⟩
          · have hfb : (f == 0) = false := by simp [hf0]
            clear hmul hf hf0 hv0 hv1 ok0 ok1
            go_enter Tryd.func11, Tryd.ntmps11
            go_wp2_with fail
            refine (HV0.out _).mono ?_
            rintro r w1 ⟨rfl, hB⟩
            obtain ⟨hc1, hf1⟩ := U.bcell hB
            have hsz := hB.size
            try simp at hsz
            have hz1_0 : w.heap.size < w1.heap.size := by omega
            have hz1_1 : w.heap.size + 1 < w1.heap.size := by omega
            clear hsz
            have HB1 := Lib.hid ((U.bel2 w _ _).trans (hB.mono (U.bel2 w _ _).size))
            clear hB
            go_wp2_with fail
            refine (HV1.out _).mono ?_
            rintro r w2 ⟨rfl, hB⟩
            obtain ⟨hc2, hf2⟩ := U.bcell hB
            have hsz := hB.size
            try simp at hsz
            have hz2_0 : w.heap.size < w2.heap.size := by omega
            have hz2_1 : w.heap.size + 1 < w2.heap.size := by omega
            clear hsz
            have HB2 := Lib.hid ((HB1.out).trans (hB.mono (HB1.out).size))
            clear hB
            go_wp2_with fail
            refine (HA.out _ (HB2.out)).mono ?_
            rintro r w3 ⟨rfl, hB⟩
            obtain ⟨hc3, hf3⟩ := U.bcell hB
            have hsz := hB.size
            try simp at hsz
            have hz3_0 : w.heap.size < w3.heap.size := by omega
            have hz3_1 : w.heap.size + 1 < w3.heap.size := by omega
            clear hsz
            have HB3 := Lib.hid ((HB2.out).trans (hB.mono (HB2.out).size))
            clear hB
            go_wp2_with fail
            refine (HM.out _ (HB3.out.alloc HB3.out.size _)).mono ?_
            rintro r w4 ⟨rfl, hB⟩
            obtain ⟨hc4, hf4⟩ := U.bcell hB
            have hsz := hB.size
            try simp at hsz
            have hz4_0 : w.heap.size < w4.heap.size := by omega
            have hz4_1 : w.heap.size + 1 < w4.heap.size := by omega
            have hz4_2 : w3.heap.size < w4.heap.size := by omega
            clear hsz
            have HB4 := Lib.hid ((HB3.out.alloc HB3.out.size _).trans (hB.mono (HB3.out.alloc HB3.out.size _).size))
            clear hB
            go_wp2_with fail
            refine (HLV.out _ (HB4.out.alloc HB4.out.size _)).mono ?_
            rintro r w5 ⟨rfl, hB⟩
            have HB5 := Lib.hid ((HB4.out.alloc HB4.out.size _).trans (hB.mono (HB4.out.alloc HB4.out.size _).size))
            clear hB
            go_wp2_with fail
            go_ret
            exact ⟨rfl, HB5.out⟩
    · rw [decide_eq_false hv1] at HV1
      clear hv0 hv1 ok0 ok1
      go_enter Tryd.func11, Tryd.ntmps11
      go_wp2_with fail
      refine (HV0.out _).mono ?_
      rintro r w1 ⟨rfl, hB⟩
      obtain ⟨hc1, hf1⟩ := U.bcell hB
      have hsz := hB.size
      try simp at hsz
      have hz1_0 : w.heap.size < w1.heap.size := by omega
      have hz1_1 : w.heap.size + 1 < w1.heap.size := by omega
      clear hsz
      have HB1 := Lib.hid ((U.bel2 w _ _).trans (hB.mono (U.bel2 w _ _).size))
      clear hB
      go_wp2_with fail
      refine (HV1.out _).mono ?_
      rintro r w2 ⟨rfl, hB⟩
      have HB2 := Lib.hid ((HB1.out).trans (hB.mono (HB1.out).size))
      clear hB
      go_wp2_with fail
      refine (HLV.out _ (HB2.out)).mono ?_
      rintro r w3 ⟨rfl, hB⟩
      have HB3 := Lib.hid ((HB2.out).trans (hB.mono (HB2.out).size))
      clear hB
      go_wp2_with fail
      go_ret
      exact ⟨rfl, HB3.out⟩
  · rw [decide_eq_false hv0] at HV0
    clear hv0 ok0 ok1
    go_enter Tryd.func11, Tryd.ntmps11
    go_wp2_with fail
    refine (HV0.out _).mono ?_
    rintro r w1 ⟨rfl, hB⟩
    obtain ⟨hc1, hf1⟩ := U.bcell hB
    have hsz := hB.size
    try simp at hsz
    have hz1_0 : w.heap.size < w1.heap.size := by omega
    have hz1_1 : w.heap.size + 1 < w1.heap.size := by omega
    clear hsz
    have HB1 := Lib.hid ((U.bel2 w _ _).trans (hB.mono (U.bel2 w _ _).size))
    clear hB
    go_wp2_with fail
    refine (HLV.out _ (HB1.out)).mono ?_
    rintro r w2 ⟨rfl, hB⟩
    have HB2 := Lib.hid ((HB1.out).trans (hB.mono (HB1.out).size))
    clear hB
    go_wp2_with fail
    go_ret
    exact ⟨rfl, HB2.out⟩

theorem reads (os : Os) {H0 : Type} (enc : TypeId × Value → H0) : ∃ places, DataW.whole enc Tryd.prog ((Go.Proofs.YthcehhonahgfmaaDoor.U.laidWorld os).forCall (fun _ _ => 0) ⟨#[], #[.agg #[.int .i64 0, .int .i64 0, .int .i64 0, .int .i64 0, .int .i64 0, .int .i64 0], .agg #[.int .i64 0, .int .i64 0, .int .i64 0, .int .i64 0, .int .i64 0, .int .i64 0]], []⟩).memory Tryd.f11.params.toList Rows.unitCancelSpec.vars false (#[.agg #[.int .i64 0, .int .i64 0, .int .i64 0, .int .i64 0, .int .i64 0, .int .i64 0], .agg #[.int .i64 0, .int .i64 0, .int .i64 0, .int .i64 0, .int .i64 0, .int .i64 0]] : Array Value).toList 8 = some ([.agg [.lit (.int .i64 0), .agg [.lit (.int .i64 0), .lit (.int .i64 0), .lit (.int .i64 0), .lit (.int .i64 0), .lit (.int .i64 0)]], .agg [.lit (.int .i64 0), .agg [.lit (.int .i64 0), .lit (.int .i64 0), .lit (.int .i64 0), .lit (.int .i64 0), .lit (.int .i64 0)]]], [], places) :=
  ⟨[], by kernel_rfl⟩
set_option maxRecDepth 100000 in
theorem lifted (os : Os) (started : os.Started) (H0 : Type) (enc : TypeId × Value → H0) (F0 : Stop.Interp) :
    ReturnsInHanded {} Tryd.checked os 11 .any ((OpenSpec.ofChange Rows.unitCancelSpec).preRow enc Tryd.prog Tryd.f11 Rows.unitCancelRow.domain false Rows.unitCancelRow.laid) (((OpenSpec.ofChange Rows.unitCancelSpec).at F0).post enc Tryd.prog Tryd.f11 false true false false) := by
  obtain ⟨places, hx⟩ := reads os enc
  refine returnsInHanded_of_row (C := Tryd.checked) (s := (OpenSpec.ofChange Rows.unitCancelSpec)) Go.Proofs.YthcehhonahgfmaaDoor.O.own started (by kernel_rfl) Tryd.func11
    (Go.Proofs.YthcehhonahgfmaaDoor.U.witness_sh (enc := enc) (C := Tryd.checked) false (Go.Proofs.YthcehhonahgfmaaDoor.U.laidWorld os) #[.agg #[.int .i64 0, .int .i64 0, .int .i64 0, .int .i64 0, .int .i64 0, .int .i64 0], .agg #[.int .i64 0, .int .i64 0, .int .i64 0, .int .i64 0, .int .i64 0, .int .i64 0]] (Go.Proofs.YthcehhonahgfmaaDoor.U.laid_os os) (World.shaped_of_ZipB (by kernel_rfl) (by kernel_rfl)) (by kernel_rfl)
      (OpenSpec.preRow_of_cond 8 hx (by kernel_rfl) (fun k hk => by cases hk) (by kernel_rfl) (Go.Proofs.YthcehhonahgfmaaDoor.U.laid_met os _))) ?_
  intro W base args ds gs before hval0 hW _ hk0 hsz0 hL hSh _
  have hsz : (DataW.weightsEach Tryd.prog (Tryd.f11.params.toList ++ (OpenSpec.ofChange Rows.unitCancelSpec).bare.plain.varTypes Tryd.prog) (ds ++ gs)).all (· ≤ reachBytes) = true := hsz0
  clear hsz0
  have hval : ∀ (j : Nat) t v, Tryd.f11.params[j]? = some t → args[j]? = some v → Value.okWide Tryd.prog W .any base t v := hval0
  have hW' := hW
  obtain ⟨p, q, hA0, hV, rfl, hfz, hnd⟩ := hW
  have hA : DataW.TrodAll enc Tryd.prog W 0 (fun _ => true) true Tryd.f11.params.toList args.toList ds p := hA0
  rw [Tryd.params11] at hA hval hsz
  obtain ⟨v0, vs0, d0, ds0, p0, q0, hargs, rfl, rfl, h0, r0⟩ := trodAll_cons hA
  obtain ⟨v1, vs1, d1, ds1, p1, q1, rfl, rfl, rfl, h1, r1⟩ := trodAll_cons r0
  obtain ⟨rfl, rfl, rfl⟩ := trodAll_nil r1
  obtain rfl : args = #[v0, v1] := by cases args; simp_all
  obtain ⟨rfl, rfl⟩ := trodVars_none hV
  have k0 := h0
  have lt0 : ∀ x ∈ p0, x.block < W.heap.size := by obtain ⟨m, hm⟩ := k0; exact DataW.trod_lt m _ _ _ hm
  obtain ⟨x0, rfl, ok0⟩ := Go.Proofs.YthcehhonahgfmaaDoor.U.open_qty (hval 0 32 v0 rfl rfl) h0
  have k1 := h1
  have lt1 : ∀ x ∈ p1, x.block < W.heap.size := by obtain ⟨m, hm⟩ := k1; exact DataW.trod_lt m _ _ _ hm
  obtain ⟨x1, rfl, ok1⟩ := Go.Proofs.YthcehhonahgfmaaDoor.U.open_qty (hval 1 32 v1 rfl rfl) h1
  clear hA0 hval0
  have tb := Go.Proofs.YthcehhonahgfmaaDoor.U.tab_of_laid hL hSh
  refine (walk x0 x1 W tb ok0 ok1).mono fun e W' ⟨he, bel⟩ => ?_
  subst he
  exact ⟨_, rfl, _, _, _, [], _, [], hW', trodAll_mk1 (shut_bool Tryd.underlying4 _), (trodAll_cons_mk (Below.trod Go.Proofs.YthcehhonahgfmaaDoor.O.laidOut (by kernel_rfl) (of_decide_eq_true (by kernel_rfl)) k0 bel lt0) (trodAll_cons_mk (Below.trod Go.Proofs.YthcehhonahgfmaaDoor.O.laidOut (by kernel_rfl) (of_decide_eq_true (by kernel_rfl)) k1 bel lt1) trodAll_mk0)), rfl, bel.frame _, fun h => by cases h⟩

theorem said : Rows.UnitCancelSaid :=
  OpenClaim.holds_of_cond 11 Tryd.f11 rfl rfl rfl rfl rfl rfl rfl ⟨rfl, rfl, rfl, rfl, rfl⟩ rfl rfl rfl rfl rfl (by kernel_rfl) Tryd.func11 (by kernel_rfl)
    (of_decide_eq_true (by kernel_rfl)) (by unfold Func.isWrapper; first | (rw [if_pos (by decide +kernel)]; kernel_rfl) | (rw [if_neg (by decide +kernel)]; exact ⟨rfl, rfl⟩))
    (fun os started H0 enc _ F0 => by rw [OpenClaim.pre_eq_preRow]; exact lifted os started H0 enc F0)
theorem plain (f : FuncId) (fn : Func) (hf : Tryd.pinned.checked.prog.funcNamed "perigee/perigeelaw04.UnitCancel" = some f) (hfn : Tryd.pinned.checked.prog.funcs[f]? = some fn) :
    true = Tryd.pinned.checked.prog.looks [] ∧ ∀ (j : Nat) t, fn.params[j]? = some t → Tryd.pinned.checked.prog.wantsStandIn t = false := by
  obtain rfl : f = 11 := Option.some.inj ((show Tryd.prog.funcNamed "perigee/perigeelaw04.UnitCancel" = some 11 by kernel_rfl).symm.trans hf) |>.symm
  obtain rfl : fn = Tryd.f11 := (Option.some.inj (Tryd.func11.symm.trans hfn)).symm
  refine ⟨by kernel_rfl, fun j t ht => ?_⟩
  rw [Tryd.params11] at ht
  have hm : t ∈ [32, 32] := by simpa using Array.mem_of_getElem? ht
  have hall : ([32, 32].all fun u => !Tryd.prog.wantsStandIn u) = true := by kernel_rfl
  exact (show Tryd.prog.wantsStandIn t = false by simpa using List.all_eq_true.1 hall t hm)
/-- ████ THE CARD ████ -/
theorem proved : Rows.UnitCancelCardSaid :=
  Claim7.holds_tied_plain_at .later [] _ _ _ _ said (fun _ h => by cases h) (by kernel_rfl) (fun _ h => by cases h) unitCancel_row_tie rfl ⟨rfl, rfl⟩ (by kernel_rfl) rfl plain (by kernel_rfl)
end Go.Proofs.YthcehhonahgfmaaDoor.unitCancel
