/-
  Contracts of the program's package unit and of its specification, as the walks of the laws use them; the examples.
-/
import Derived.Test.YthcehhonahgfmaaDoorUP3
import Derived.Test.YthcehhonahgfmaaDoorUP4
import Derived.Test.YthcehhonahgfmaaDoorUP6
import Derived.Test.YthcehhonahgfmaaDoorUP10
import Derived.Test.YthcehhonahgfmaaDoorUR10
import Derived.Test.YthcehhonahgfmaaDoorUName
namespace Go.Proofs.YthcehhonahgfmaaDoor
open Go.RowKit
namespace U
open H
set_option linter.unusedVariables false
set_option maxRecDepth 100000
theorem ptimes_w (x y : Dm) (w : World) (tb : Tab w) (hx : x.in 1000) (hy : y.in 1000) :
    Calls Tryd.prog 18 #[.agg #[.int .i64 x.e, .int .i64 x.d, .int .i64 x.t, .int .i64 x.a, .int .i64 x.h], .agg #[.int .i64 y.e, .int .i64 y.d, .int .i64 y.t, .int .i64 y.a, .int .i64 y.h]] w fun r w' => r = .returned (.agg #[.int .i64 (x.times y).e, .int .i64 (x.times y).d, .int .i64 (x.times y).t, .int .i64 (x.times y).a, .int .i64 (x.times y).h]) ∧ Below w.heap.size w w' := ptimes_any x y w (in_mono hx (by omega)) (in_mono hy (by omega))
theorem pover_w (x y : Dm) (w : World) (tb : Tab w) (hx : x.in 1000) (hy : y.in 1000) :
    Calls Tryd.prog 20 #[.agg #[.int .i64 x.e, .int .i64 x.d, .int .i64 x.t, .int .i64 x.a, .int .i64 x.h], .agg #[.int .i64 y.e, .int .i64 y.d, .int .i64 y.t, .int .i64 y.a, .int .i64 y.h]] w fun r w' => r = .returned (.agg #[.int .i64 (x.over y).e, .int .i64 (x.over y).d, .int .i64 (x.over y).t, .int .i64 (x.over y).a, .int .i64 (x.over y).h]) ∧ Below w.heap.size w w' := pover_any x y w hx hy
theorem padd_w (x y : Qt) (w : World) (tb : Tab w) (hx : x.valid) (hy : y.valid) :
    Calls Tryd.prog 27 #[.agg #[.int .i64 x.n, .int .i64 x.m.e, .int .i64 x.m.d, .int .i64 x.m.t, .int .i64 x.m.a, .int .i64 x.m.h], .agg #[.int .i64 y.n, .int .i64 y.m.e, .int .i64 y.m.d, .int .i64 y.m.t, .int .i64 y.m.a, .int .i64 y.m.h]] w fun r w' => r = .returned (.tuple #[.agg #[.int .i64 (addQ x y).1.n, .int .i64 (addQ x y).1.m.e, .int .i64 (addQ x y).1.m.d, .int .i64 (addQ x y).1.m.t, .int .i64 (addQ x y).1.m.a, .int .i64 (addQ x y).1.m.h], .int .i64 (addQ x y).2]) ∧ Below w.heap.size w w' := padd_any x y w (by have := hx.1; omega) (by have := hy.1; omega)
theorem psub_w (x y : Qt) (w : World) (tb : Tab w) (hx : x.valid) (hy : y.valid) :
    Calls Tryd.prog 29 #[.agg #[.int .i64 x.n, .int .i64 x.m.e, .int .i64 x.m.d, .int .i64 x.m.t, .int .i64 x.m.a, .int .i64 x.m.h], .agg #[.int .i64 y.n, .int .i64 y.m.e, .int .i64 y.m.d, .int .i64 y.m.t, .int .i64 y.m.a, .int .i64 y.m.h]] w fun r w' => r = .returned (.tuple #[.agg #[.int .i64 (subQ x y).1.n, .int .i64 (subQ x y).1.m.e, .int .i64 (subQ x y).1.m.d, .int .i64 (subQ x y).1.m.t, .int .i64 (subQ x y).1.m.a, .int .i64 (subQ x y).1.m.h], .int .i64 (subQ x y).2]) ∧ Below w.heap.size w w' := psub_any x y w (by have := hx.1; omega) (by have := hy.1; omega)
theorem pmul_w (x y : Qt) (w : World) (tb : Tab w) (hx : x.valid) (hy : y.valid) :
    Calls Tryd.prog 31 #[.agg #[.int .i64 x.n, .int .i64 x.m.e, .int .i64 x.m.d, .int .i64 x.m.t, .int .i64 x.m.a, .int .i64 x.m.h], .agg #[.int .i64 y.n, .int .i64 y.m.e, .int .i64 y.m.d, .int .i64 y.m.t, .int .i64 y.m.a, .int .i64 y.m.h]] w fun r w' => r = .returned (.tuple #[.agg #[.int .i64 (mulQ x y).1.n, .int .i64 (mulQ x y).1.m.e, .int .i64 (mulQ x y).1.m.d, .int .i64 (mulQ x y).1.m.t, .int .i64 (mulQ x y).1.m.a, .int .i64 (mulQ x y).1.m.h], .int .i64 (mulQ x y).2]) ∧ Below w.heap.size w w' := pmul_any x y w hx hy
theorem pdiv_w (x y : Qt) (w : World) (tb : Tab w) (hx : x.valid) (hy : y.valid) :
    Calls Tryd.prog 33 #[.agg #[.int .i64 x.n, .int .i64 x.m.e, .int .i64 x.m.d, .int .i64 x.m.t, .int .i64 x.m.a, .int .i64 x.m.h], .agg #[.int .i64 y.n, .int .i64 y.m.e, .int .i64 y.m.d, .int .i64 y.m.t, .int .i64 y.m.a, .int .i64 y.m.h]] w fun r w' => r = .returned (.tuple #[.agg #[.int .i64 (divQ x y).1.n, .int .i64 (divQ x y).1.m.e, .int .i64 (divQ x y).1.m.d, .int .i64 (divQ x y).1.m.t, .int .i64 (divQ x y).1.m.a, .int .i64 (divQ x y).1.m.h], .int .i64 (divQ x y).2]) ∧ Below w.heap.size w w' := pdiv_any x y w hx hy
theorem pcmp_w (x y : Qt) (w : World) (tb : Tab w) (hx : x.valid) (hy : y.valid) :
    Calls Tryd.prog 35 #[.agg #[.int .i64 x.n, .int .i64 x.m.e, .int .i64 x.m.d, .int .i64 x.m.t, .int .i64 x.m.a, .int .i64 x.m.h], .agg #[.int .i64 y.n, .int .i64 y.m.e, .int .i64 y.m.d, .int .i64 y.m.t, .int .i64 y.m.a, .int .i64 y.m.h]] w fun r w' => r = .returned (.tuple #[.int .i64 (cmpQ x y).1, .int .i64 (cmpQ x y).2]) ∧ Below w.heap.size w w' := pcmp_any x y w
theorem list_of (l : List UInt8) : (⟨l.toArray⟩ : ByteArray).toList = l := by rw [ByteArray.toList_eq]
theorem ok_of_valid {q : Qt} (h : q.valid) : q.ok := by
  obtain ⟨h1, h2, h3, h4, h5, h6⟩ := h
  unfold Qt.ok Dm.ok I64
  omega
/-! ### The examples -/
theorem ex_name : nameT ⟨1, 0, -1, 0, 0⟩ = [74, 42, 115, 94, 45, 49] := by
  have h1 : nameT ⟨1, 0, -1, 0, 0⟩ = joinT (pcsK ⟨1, 0, -1, 0, 0⟩ 5) := nmK_join _ 5
  have h2 : Lib.itoa (-1) = [45, 49] := itoa8 ⟨7, by decide⟩
  rw [h1]
  show joinT [base 0, base 2 ++ 94 :: Lib.itoa (-1)] = _
  rw [h2]
  rfl
theorem ex_print : printT ⟨5000, ⟨1, 0, 0, 0, 0⟩⟩ = [53, 48, 48, 48, 32, 74] := by
  have h1 : nameT ⟨1, 0, 0, 0, 0⟩ = joinT (pcsK ⟨1, 0, 0, 0, 0⟩ 5) := nmK_join _ 5
  have h2 : Lib.itoa 5000 = [53, 48, 48, 48] := by
    unfold Lib.itoa
    rw [if_neg (by decide)]
    show Lib.decDigits 5000 = _
    rw [Lib.decDigits, dif_neg (by decide), Lib.decDigits, dif_neg (by decide), Lib.decDigits, dif_neg (by decide), Lib.decDigits, dif_pos (by decide)]
    rfl
  unfold printT
  dsimp only
  rw [h1, h2]
  rfl
theorem ex_look : lookT [107, 74] = (⟨1, 0, 0, 0, 0⟩, 1000, true) := by decide
theorem ex_div : divQ ⟨-7, .zero⟩ ⟨2, .zero⟩ = (⟨-4, .zero⟩, 0) := by decide
set_option maxHeartbeats 2000000 in
theorem ulives_any (w : World) (tb : Tab w) : Calls Tryd.prog 16 #[] w fun r w' => r = .returned (.bool true) ∧ Below w.heap.size w w' := by
  have TB := Lib.hid tb
  have HL := Lib.hid (fun W (h : Below w.heap.size w W) => plook_any ⟨#[107, 74]⟩ W (tb.below h))
  rw [show (⟨#[107, 74]⟩ : ByteArray).toList = [107, 74] from list_of _, ex_look] at HL
  have HP1 := Lib.hid (fun W (h : Below w.heap.size w W) => pparse_any ⟨#[53, 32, 107, 74]⟩ W (tb.below h) (by decide))
  rw [show (⟨#[53, 32, 107, 74]⟩ : ByteArray).toList = [53, 32, 107, 74] from list_of _, ex_kJ] at HP1
  have HP2 := Lib.hid (fun W (h : Below w.heap.size w W) => pparse_any ⟨#[50, 32, 107, 87, 42, 104]⟩ W (tb.below h) (by decide))
  rw [show (⟨#[50, 32, 107, 87, 42, 104]⟩ : ByteArray).toList = [50, 32, 107, 87, 42, 104] from list_of _, ex_kWh] at HP2
  have HP3 := Lib.hid (fun W (h : Below w.heap.size w W) => pparse_any ⟨#[53, 32, 107, 74, 94, 50]⟩ W (tb.below h) (by decide))
  rw [show (⟨#[53, 32, 107, 74, 94, 50]⟩ : ByteArray).toList = [53, 32, 107, 74, 94, 50] from list_of _, ex_kJ2] at HP3
  have HP4 := Lib.hid (fun W (h : Below w.heap.size w W) => pparse_any ⟨#[48, 53, 32, 74]⟩ W (tb.below h) (by decide))
  rw [show (⟨#[48, 53, 32, 74]⟩ : ByteArray).toList = [48, 53, 32, 74] from list_of _, ex_05J] at HP4
  generalize (parseT [53, 32, 107, 74, 94, 50]).1 = q3 at HP3
  generalize (parseT [48, 53, 32, 74]).1 = q4 at HP4
  have HD := Lib.hid (fun W => pdiv_any ⟨-7, .zero⟩ ⟨2, .zero⟩ W (by decide) (by decide))
  rw [ex_div] at HD
  have HN := Lib.hid (fun W (h : Below w.heap.size w W) => pname_any ⟨1, 0, -1, 0, 0⟩ W (tb.below h) (by unfold Dm.ok I64; decide))
  rw [ex_name] at HN
  have HPR := Lib.hid (fun W (h : Below w.heap.size w W) => pprint_any ⟨5000, ⟨1, 0, 0, 0, 0⟩⟩ W (tb.below h) (by unfold Qt.ok Dm.ok I64; decide))
  rw [ex_print] at HPR
  dsimp only [Dm.zero] at HL HP1 HP2 HP3 HP4 HD HN HPR
  clear tb
  go_enter Tryd.func16, Tryd.ntmps16
  go_wp2_with fail
  have HB0 := Lib.hid (Below.refl w.heap.size w)
  refine (HL.out _ (by first | exact HB0.out | exact (HB0.out.alloc (by have := HB0.out.size; simp <;> omega) _) | exact ((HB0.out.alloc (by have := HB0.out.size; simp <;> omega) _).alloc (by have := HB0.out.size; simp <;> omega) _) | exact (((HB0.out.alloc (by have := HB0.out.size; simp <;> omega) _).alloc (by have := HB0.out.size; simp <;> omega) _).alloc (by have := HB0.out.size; simp <;> omega) _))).mono ?_
  rintro r w1 ⟨rfl, hB⟩
  obtain ⟨hc1, hf1⟩ := bcell hB
  have hsz := hB.size
  try simp at hsz
  try have hz1_0 : w.heap.size < w1.heap.size := by omega
  have HB1 := Lib.hid (show Below w.heap.size w w1 by first | exact HB0.out.trans (hB.mono HB0.out.size) | exact (HB0.out.alloc (by have := HB0.out.size; simp <;> omega) _).trans (hB.mono (HB0.out.alloc (by have := HB0.out.size; simp <;> omega) _).size) | exact ((HB0.out.alloc (by have := HB0.out.size; simp <;> omega) _).alloc (by have := HB0.out.size; simp <;> omega) _).trans (hB.mono ((HB0.out.alloc (by have := HB0.out.size; simp <;> omega) _).alloc (by have := HB0.out.size; simp <;> omega) _).size) | exact (((HB0.out.alloc (by have := HB0.out.size; simp <;> omega) _).alloc (by have := HB0.out.size; simp <;> omega) _).alloc (by have := HB0.out.size; simp <;> omega) _).trans (hB.mono (((HB0.out.alloc (by have := HB0.out.size; simp <;> omega) _).alloc (by have := HB0.out.size; simp <;> omega) _).alloc (by have := HB0.out.size; simp <;> omega) _).size))
  clear hB hsz
  go_wp2_with fail
  refine (HP1.out _ (by first | exact HB1.out | exact (HB1.out.alloc (by have := HB1.out.size; simp <;> omega) _) | exact ((HB1.out.alloc (by have := HB1.out.size; simp <;> omega) _).alloc (by have := HB1.out.size; simp <;> omega) _) | exact (((HB1.out.alloc (by have := HB1.out.size; simp <;> omega) _).alloc (by have := HB1.out.size; simp <;> omega) _).alloc (by have := HB1.out.size; simp <;> omega) _))).mono ?_
  rintro r w2 ⟨rfl, hB⟩
  obtain ⟨hc2, hf2⟩ := bcell hB
  have hsz := hB.size
  try simp at hsz
  try have hz2_0 : w.heap.size < w2.heap.size := by omega
  try have hz2_1 : w1.heap.size < w2.heap.size := by omega
  have HB2 := Lib.hid (show Below w.heap.size w w2 by first | exact HB1.out.trans (hB.mono HB1.out.size) | exact (HB1.out.alloc (by have := HB1.out.size; simp <;> omega) _).trans (hB.mono (HB1.out.alloc (by have := HB1.out.size; simp <;> omega) _).size) | exact ((HB1.out.alloc (by have := HB1.out.size; simp <;> omega) _).alloc (by have := HB1.out.size; simp <;> omega) _).trans (hB.mono ((HB1.out.alloc (by have := HB1.out.size; simp <;> omega) _).alloc (by have := HB1.out.size; simp <;> omega) _).size) | exact (((HB1.out.alloc (by have := HB1.out.size; simp <;> omega) _).alloc (by have := HB1.out.size; simp <;> omega) _).alloc (by have := HB1.out.size; simp <;> omega) _).trans (hB.mono (((HB1.out.alloc (by have := HB1.out.size; simp <;> omega) _).alloc (by have := HB1.out.size; simp <;> omega) _).alloc (by have := HB1.out.size; simp <;> omega) _).size))
  clear hB hsz
  go_wp2_with fail
  refine (HP2.out _ (by first | exact HB2.out | exact (HB2.out.alloc (by have := HB2.out.size; simp <;> omega) _) | exact ((HB2.out.alloc (by have := HB2.out.size; simp <;> omega) _).alloc (by have := HB2.out.size; simp <;> omega) _) | exact (((HB2.out.alloc (by have := HB2.out.size; simp <;> omega) _).alloc (by have := HB2.out.size; simp <;> omega) _).alloc (by have := HB2.out.size; simp <;> omega) _))).mono ?_
  rintro r w3 ⟨rfl, hB⟩
  obtain ⟨hc3, hf3⟩ := bcell hB
  have hsz := hB.size
  try simp at hsz
  try have hz3_0 : w.heap.size < w3.heap.size := by omega
  try have hz3_1 : w1.heap.size < w3.heap.size := by omega
  try have hz3_2 : w2.heap.size < w3.heap.size := by omega
  have HB3 := Lib.hid (show Below w.heap.size w w3 by first | exact HB2.out.trans (hB.mono HB2.out.size) | exact (HB2.out.alloc (by have := HB2.out.size; simp <;> omega) _).trans (hB.mono (HB2.out.alloc (by have := HB2.out.size; simp <;> omega) _).size) | exact ((HB2.out.alloc (by have := HB2.out.size; simp <;> omega) _).alloc (by have := HB2.out.size; simp <;> omega) _).trans (hB.mono ((HB2.out.alloc (by have := HB2.out.size; simp <;> omega) _).alloc (by have := HB2.out.size; simp <;> omega) _).size) | exact (((HB2.out.alloc (by have := HB2.out.size; simp <;> omega) _).alloc (by have := HB2.out.size; simp <;> omega) _).alloc (by have := HB2.out.size; simp <;> omega) _).trans (hB.mono (((HB2.out.alloc (by have := HB2.out.size; simp <;> omega) _).alloc (by have := HB2.out.size; simp <;> omega) _).alloc (by have := HB2.out.size; simp <;> omega) _).size))
  clear hB hsz
  go_wp2_with fail
  refine (HD.out _).mono ?_
  rintro r w4 ⟨rfl, hB⟩
  obtain ⟨hc4, hf4⟩ := bcell hB
  have hsz := hB.size
  try simp at hsz
  try have hz4_0 : w.heap.size < w4.heap.size := by omega
  try have hz4_1 : w1.heap.size < w4.heap.size := by omega
  try have hz4_2 : w2.heap.size < w4.heap.size := by omega
  try have hz4_3 : w3.heap.size < w4.heap.size := by omega
  have HB4 := Lib.hid (show Below w.heap.size w w4 by first | exact HB3.out.trans (hB.mono HB3.out.size) | exact (HB3.out.alloc (by have := HB3.out.size; simp <;> omega) _).trans (hB.mono (HB3.out.alloc (by have := HB3.out.size; simp <;> omega) _).size) | exact ((HB3.out.alloc (by have := HB3.out.size; simp <;> omega) _).alloc (by have := HB3.out.size; simp <;> omega) _).trans (hB.mono ((HB3.out.alloc (by have := HB3.out.size; simp <;> omega) _).alloc (by have := HB3.out.size; simp <;> omega) _).size) | exact (((HB3.out.alloc (by have := HB3.out.size; simp <;> omega) _).alloc (by have := HB3.out.size; simp <;> omega) _).alloc (by have := HB3.out.size; simp <;> omega) _).trans (hB.mono (((HB3.out.alloc (by have := HB3.out.size; simp <;> omega) _).alloc (by have := HB3.out.size; simp <;> omega) _).alloc (by have := HB3.out.size; simp <;> omega) _).size))
  clear hB hsz
  go_wp2_with fail
  refine (HP3.out _ (by first | exact HB4.out | exact (HB4.out.alloc (by have := HB4.out.size; simp <;> omega) _) | exact ((HB4.out.alloc (by have := HB4.out.size; simp <;> omega) _).alloc (by have := HB4.out.size; simp <;> omega) _) | exact (((HB4.out.alloc (by have := HB4.out.size; simp <;> omega) _).alloc (by have := HB4.out.size; simp <;> omega) _).alloc (by have := HB4.out.size; simp <;> omega) _))).mono ?_
  rintro r w5 ⟨rfl, hB⟩
  obtain ⟨hc5, hf5⟩ := bcell hB
  have hsz := hB.size
  try simp at hsz
  try have hz5_0 : w.heap.size < w5.heap.size := by omega
  try have hz5_1 : w1.heap.size < w5.heap.size := by omega
  try have hz5_2 : w2.heap.size < w5.heap.size := by omega
  try have hz5_3 : w3.heap.size < w5.heap.size := by omega
  try have hz5_4 : w4.heap.size < w5.heap.size := by omega
  have HB5 := Lib.hid (show Below w.heap.size w w5 by first | exact HB4.out.trans (hB.mono HB4.out.size) | exact (HB4.out.alloc (by have := HB4.out.size; simp <;> omega) _).trans (hB.mono (HB4.out.alloc (by have := HB4.out.size; simp <;> omega) _).size) | exact ((HB4.out.alloc (by have := HB4.out.size; simp <;> omega) _).alloc (by have := HB4.out.size; simp <;> omega) _).trans (hB.mono ((HB4.out.alloc (by have := HB4.out.size; simp <;> omega) _).alloc (by have := HB4.out.size; simp <;> omega) _).size) | exact (((HB4.out.alloc (by have := HB4.out.size; simp <;> omega) _).alloc (by have := HB4.out.size; simp <;> omega) _).alloc (by have := HB4.out.size; simp <;> omega) _).trans (hB.mono (((HB4.out.alloc (by have := HB4.out.size; simp <;> omega) _).alloc (by have := HB4.out.size; simp <;> omega) _).alloc (by have := HB4.out.size; simp <;> omega) _).size))
  clear hB hsz
  go_wp2_with fail
  refine (HP4.out _ (by first | exact HB5.out | exact (HB5.out.alloc (by have := HB5.out.size; simp <;> omega) _) | exact ((HB5.out.alloc (by have := HB5.out.size; simp <;> omega) _).alloc (by have := HB5.out.size; simp <;> omega) _) | exact (((HB5.out.alloc (by have := HB5.out.size; simp <;> omega) _).alloc (by have := HB5.out.size; simp <;> omega) _).alloc (by have := HB5.out.size; simp <;> omega) _))).mono ?_
  rintro r w6 ⟨rfl, hB⟩
  obtain ⟨hc6, hf6⟩ := bcell hB
  have hsz := hB.size
  try simp at hsz
  try have hz6_0 : w.heap.size < w6.heap.size := by omega
  try have hz6_1 : w1.heap.size < w6.heap.size := by omega
  try have hz6_2 : w2.heap.size < w6.heap.size := by omega
  try have hz6_3 : w3.heap.size < w6.heap.size := by omega
  try have hz6_4 : w4.heap.size < w6.heap.size := by omega
  try have hz6_5 : w5.heap.size < w6.heap.size := by omega
  have HB6 := Lib.hid (show Below w.heap.size w w6 by first | exact HB5.out.trans (hB.mono HB5.out.size) | exact (HB5.out.alloc (by have := HB5.out.size; simp <;> omega) _).trans (hB.mono (HB5.out.alloc (by have := HB5.out.size; simp <;> omega) _).size) | exact ((HB5.out.alloc (by have := HB5.out.size; simp <;> omega) _).alloc (by have := HB5.out.size; simp <;> omega) _).trans (hB.mono ((HB5.out.alloc (by have := HB5.out.size; simp <;> omega) _).alloc (by have := HB5.out.size; simp <;> omega) _).size) | exact (((HB5.out.alloc (by have := HB5.out.size; simp <;> omega) _).alloc (by have := HB5.out.size; simp <;> omega) _).alloc (by have := HB5.out.size; simp <;> omega) _).trans (hB.mono (((HB5.out.alloc (by have := HB5.out.size; simp <;> omega) _).alloc (by have := HB5.out.size; simp <;> omega) _).alloc (by have := HB5.out.size; simp <;> omega) _).size))
  clear hB hsz
  go_wp2_with fail
  refine (HN.out _ (by first | exact HB6.out | exact (HB6.out.alloc (by have := HB6.out.size; simp <;> omega) _) | exact ((HB6.out.alloc (by have := HB6.out.size; simp <;> omega) _).alloc (by have := HB6.out.size; simp <;> omega) _) | exact (((HB6.out.alloc (by have := HB6.out.size; simp <;> omega) _).alloc (by have := HB6.out.size; simp <;> omega) _).alloc (by have := HB6.out.size; simp <;> omega) _))).mono ?_
  rintro r w7 ⟨rfl, hB⟩
  obtain ⟨hc7, hf7⟩ := bcell hB
  have hsz := hB.size
  try simp at hsz
  try have hz7_0 : w.heap.size < w7.heap.size := by omega
  try have hz7_1 : w1.heap.size < w7.heap.size := by omega
  try have hz7_2 : w2.heap.size < w7.heap.size := by omega
  try have hz7_3 : w3.heap.size < w7.heap.size := by omega
  try have hz7_4 : w4.heap.size < w7.heap.size := by omega
  try have hz7_5 : w5.heap.size < w7.heap.size := by omega
  try have hz7_6 : w6.heap.size < w7.heap.size := by omega
  have HB7 := Lib.hid (show Below w.heap.size w w7 by first | exact HB6.out.trans (hB.mono HB6.out.size) | exact (HB6.out.alloc (by have := HB6.out.size; simp <;> omega) _).trans (hB.mono (HB6.out.alloc (by have := HB6.out.size; simp <;> omega) _).size) | exact ((HB6.out.alloc (by have := HB6.out.size; simp <;> omega) _).alloc (by have := HB6.out.size; simp <;> omega) _).trans (hB.mono ((HB6.out.alloc (by have := HB6.out.size; simp <;> omega) _).alloc (by have := HB6.out.size; simp <;> omega) _).size) | exact (((HB6.out.alloc (by have := HB6.out.size; simp <;> omega) _).alloc (by have := HB6.out.size; simp <;> omega) _).alloc (by have := HB6.out.size; simp <;> omega) _).trans (hB.mono (((HB6.out.alloc (by have := HB6.out.size; simp <;> omega) _).alloc (by have := HB6.out.size; simp <;> omega) _).alloc (by have := HB6.out.size; simp <;> omega) _).size))
  clear hB hsz
  go_wp2_with fail
  refine (HPR.out _ (by first | exact HB7.out | exact (HB7.out.alloc (by have := HB7.out.size; simp <;> omega) _) | exact ((HB7.out.alloc (by have := HB7.out.size; simp <;> omega) _).alloc (by have := HB7.out.size; simp <;> omega) _) | exact (((HB7.out.alloc (by have := HB7.out.size; simp <;> omega) _).alloc (by have := HB7.out.size; simp <;> omega) _).alloc (by have := HB7.out.size; simp <;> omega) _))).mono ?_
  rintro r w8 ⟨rfl, hB⟩
  obtain ⟨hc8, hf8⟩ := bcell hB
  have hsz := hB.size
  try simp at hsz
  try have hz8_0 : w.heap.size < w8.heap.size := by omega
  try have hz8_1 : w1.heap.size < w8.heap.size := by omega
  try have hz8_2 : w2.heap.size < w8.heap.size := by omega
  try have hz8_3 : w3.heap.size < w8.heap.size := by omega
  try have hz8_4 : w4.heap.size < w8.heap.size := by omega
  try have hz8_5 : w5.heap.size < w8.heap.size := by omega
  try have hz8_6 : w6.heap.size < w8.heap.size := by omega
  try have hz8_7 : w7.heap.size < w8.heap.size := by omega
  have HB8 := Lib.hid (show Below w.heap.size w w8 by first | exact HB7.out.trans (hB.mono HB7.out.size) | exact (HB7.out.alloc (by have := HB7.out.size; simp <;> omega) _).trans (hB.mono (HB7.out.alloc (by have := HB7.out.size; simp <;> omega) _).size) | exact ((HB7.out.alloc (by have := HB7.out.size; simp <;> omega) _).alloc (by have := HB7.out.size; simp <;> omega) _).trans (hB.mono ((HB7.out.alloc (by have := HB7.out.size; simp <;> omega) _).alloc (by have := HB7.out.size; simp <;> omega) _).size) | exact (((HB7.out.alloc (by have := HB7.out.size; simp <;> omega) _).alloc (by have := HB7.out.size; simp <;> omega) _).alloc (by have := HB7.out.size; simp <;> omega) _).trans (hB.mono (((HB7.out.alloc (by have := HB7.out.size; simp <;> omega) _).alloc (by have := HB7.out.size; simp <;> omega) _).alloc (by have := HB7.out.size; simp <;> omega) _).size))
  clear hB hsz
  go_wp2_with fail
  go_ret
  exact ⟨rfl, HB8.out⟩
end U
end Go.Proofs.YthcehhonahgfmaaDoor
