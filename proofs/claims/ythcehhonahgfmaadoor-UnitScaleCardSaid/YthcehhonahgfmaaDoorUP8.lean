/-
  Contract of the program's meaning of a factor.
-/
import Derived.Test.YthcehhonahgfmaaDoorUP5
import Derived.Test.YthcehhonahgfmaaDoorUP7
import Derived.Test.YthcehhonahgfmaaDoorUP2
namespace Go.Proofs.YthcehhonahgfmaaDoor
open Go.RowKit
namespace U
open H
set_option linter.unusedVariables false
set_option maxRecDepth 100000

theorem look_in (l : List UInt8) : (lookT l).1.in 1000 := by
  have h1 : (fun k : Dm × Int × Bool => k.1.in 1000) (lookT l) := by
    unfold lookT
    repeat (refine ite_any (P := fun k : Dm × Int × Bool => k.1.in 1000) (by decide) ?_)
    decide
  exact h1
theorem valT_bd (l : List UInt8) : -2147483648 ≤ valT l ∧ valT l ≤ 2147483648 := by
  unfold valT
  split <;> omega
theorem b21 (w : World) (A B : Obj) : ((w.alloc A).alloc B).heap[w.heap.size + 1]? = some B := by
  have h := heap_alloc_new (w.alloc A) B
  rwa [show (w.alloc A).heap.size = w.heap.size + 1 by simp] at h
set_option maxHeartbeats 1000000 in
theorem pmean_any (u x : ByteArray) (g : Bool) (w : World) (tb : Tab w) (hx : x.size ≤ 100) :
    Calls Tryd.prog 54 #[.agg #[.string u, .string x, .bool g]] w fun r w' => r = .returned (.tuple #[.agg #[.int .i64 (pmeanT ⟨u.data.toList, x.data.toList, g⟩).1.e, .int .i64 (pmeanT ⟨u.data.toList, x.data.toList, g⟩).1.d, .int .i64 (pmeanT ⟨u.data.toList, x.data.toList, g⟩).1.t, .int .i64 (pmeanT ⟨u.data.toList, x.data.toList, g⟩).1.a, .int .i64 (pmeanT ⟨u.data.toList, x.data.toList, g⟩).1.h], .int .i64 (pmeanT ⟨u.data.toList, x.data.toList, g⟩).2.1, .int .i64 (pmeanT ⟨u.data.toList, x.data.toList, g⟩).2.2]) ∧ Below w.heap.size w w' := by
  have HL := Lib.hid (fun W tb => plook_any u W tb)
  rw [ByteArray.toList_eq] at HL
  have HIN := Lib.hid (look_in u.data.toList)
  have HT := Lib.hid (tb.below (bel2 w (.cells #[.string u, .string x, .bool g] 63) (.cells #[.int .i64 0, .int .i64 0, .int .i64 0, .int .i64 0, .int .i64 0] 23)))
  have HV := Lib.hid (fun W tb => pvalue_any x W tb hx)
  have hv := valT_bd x.data.toList
  obtain ⟨p, hp⟩ : ∃ p, pmeanT ⟨u.data.toList, x.data.toList, g⟩ = p := ⟨_, rfl⟩
  rw [hp]
  unfold pmeanT at hp
  simp only [] at hp
  generalize lookT u.data.toList = k at HL HIN hp
  generalize valT x.data.toList = v at HV hv hp
  obtain ⟨⟨e, d, t, a, h⟩, sz, ok⟩ := k
  dsimp only at hp HL
  cases ok
  · simp only [if_true] at hp
    subst hp
    go_enter Tryd.func54, Tryd.ntmps54
    go_wp2_with fail
    refine (HL.out _ HT.out).mono ?_
    rintro r w1 ⟨rfl, hB⟩
    have hc := (bcell hB).1
    have hc0 : w1.cell? ⟨w.heap.size, 0, none⟩ = some (.string u) := (hc _ _ (by simp; omega)).trans (World.cell?_alloc2_first _ _ _ _)
    have hc1 : w1.cell? ⟨w.heap.size, 1, none⟩ = some (.string x) := (hc _ _ (by simp; omega)).trans (World.cell?_alloc2_first _ _ _ _)
    have hc2 : w1.cell? ⟨w.heap.size, 2, none⟩ = some (.bool g) := (hc _ _ (by simp; omega)).trans (World.cell?_alloc2_first _ _ _ _)
    clear hc
    have hres := (hB.block (w.heap.size + 1) (by simp)).trans (b21 w _ _)
    have hsz : w.heap.size + 1 < w1.heap.size := (Array.getElem?_eq_some_iff.1 hres).1
    have hlt : w.heap.size < w1.heap.size := by omega
    have HRES := Lib.hid ((Below.heap_alloc w1 (.cells #[.int .i64 e, .int .i64 d, .int .i64 t, .int .i64 a, .int .i64 h] 23) (w.heap.size + 1) (by omega)).trans hres)
    have HB := Lib.hid (((bel2 w _ _).trans (hB.mono (by simp; omega))).alloc (by omega) (.cells #[.int .i64 e, .int .i64 d, .int .i64 t, .int .i64 a, .int .i64 h] 23))
    clear hB hres
    go_wp2_with (refine wpList_store_row rfl 23 _ _ rfl (w.heap.size + 1) #[.int .i64 0, .int .i64 0, .int .i64 0, .int .i64 0, .int .i64 0] rfl rfl 23 _ HRES.out sizeD rfl (one5 _ _ _ _ _) ?_)
    refine bodyPost_ret (results_row_tmp2 (ty := 23) rfl _ _ (w.heap.size + 1) 23 #[.int .i64 0, .int .i64 0, .int .i64 0, .int .i64 0, .int .i64 0] (0, 0) _ _ _ rfl rfl rfl (setRow_heap _ _ _ _ _ _ HRES.out) Tryd.underlying23 rfl sizeD) rfl ⟨?_, below_setRow HB.out (by omega) _⟩
    rfl
  · simp only [Bool.true_eq_false, if_false] at hp
    cases g
    · simp only [if_true] at hp
      subst hp
      go_enter Tryd.func54, Tryd.ntmps54
      go_wp2_with fail
      refine (HL.out _ HT.out).mono ?_
      rintro r w1 ⟨rfl, hB⟩
      have hc := (bcell hB).1
      have hc0 : w1.cell? ⟨w.heap.size, 0, none⟩ = some (.string u) := (hc _ _ (by simp; omega)).trans (World.cell?_alloc2_first _ _ _ _)
      have hc1 : w1.cell? ⟨w.heap.size, 1, none⟩ = some (.string x) := (hc _ _ (by simp; omega)).trans (World.cell?_alloc2_first _ _ _ _)
      have hc2 : w1.cell? ⟨w.heap.size, 2, none⟩ = some (.bool false) := (hc _ _ (by simp; omega)).trans (World.cell?_alloc2_first _ _ _ _)
      clear hc
      have hres := (hB.block (w.heap.size + 1) (by simp)).trans (b21 w _ _)
      have hsz : w.heap.size + 1 < w1.heap.size := (Array.getElem?_eq_some_iff.1 hres).1
      have hlt : w.heap.size < w1.heap.size := by omega
      have HRES := Lib.hid ((Below.heap_alloc w1 (.cells #[.int .i64 e, .int .i64 d, .int .i64 t, .int .i64 a, .int .i64 h] 23) (w.heap.size + 1) (by omega)).trans hres)
      have HB := Lib.hid (((bel2 w _ _).trans (hB.mono (by simp; omega))).alloc (by omega) (.cells #[.int .i64 e, .int .i64 d, .int .i64 t, .int .i64 a, .int .i64 h] 23))
      clear hB hres
      go_wp2_with (refine wpList_store_row rfl 23 _ _ rfl (w.heap.size + 1) #[.int .i64 e, .int .i64 d, .int .i64 t, .int .i64 a, .int .i64 h] rfl rfl 23 _ HRES.out sizeD rfl (one5 _ _ _ _ _) ?_)
      refine bodyPost_ret (results_row_tmp2 (ty := 23) rfl _ _ (w.heap.size + 1) 23 #[.int .i64 e, .int .i64 d, .int .i64 t, .int .i64 a, .int .i64 h] (0, 0) _ _ _ rfl rfl rfl (setRow_heap _ _ _ _ _ _ HRES.out) Tryd.underlying23 rfl sizeD) rfl ⟨?_, below_setRow HB.out (by omega) _⟩
      rfl
    · simp only [Bool.true_eq_false, if_false] at hp
      by_cases hs : sz = 1
      · subst hs
        simp only [ne_eq, not_true_eq_false, if_false] at hp
        by_cases h0 : v = 0
        · rw [if_pos (Or.inl h0)] at hp
          subst hp
          subst h0
          go_enter Tryd.func54, Tryd.ntmps54
          go_wp2_with fail
          refine (HL.out _ HT.out).mono ?_
          rintro r w1 ⟨rfl, hB⟩
          have hc := (bcell hB).1
          have hc0 : w1.cell? ⟨w.heap.size, 0, none⟩ = some (.string u) := (hc _ _ (by simp; omega)).trans (World.cell?_alloc2_first _ _ _ _)
          have hc1 : w1.cell? ⟨w.heap.size, 1, none⟩ = some (.string x) := (hc _ _ (by simp; omega)).trans (World.cell?_alloc2_first _ _ _ _)
          have hc2 : w1.cell? ⟨w.heap.size, 2, none⟩ = some (.bool true) := (hc _ _ (by simp; omega)).trans (World.cell?_alloc2_first _ _ _ _)
          clear hc
          have hres := (hB.block (w.heap.size + 1) (by simp)).trans (b21 w _ _)
          have hsz : w.heap.size + 1 < w1.heap.size := (Array.getElem?_eq_some_iff.1 hres).1
          have hlt : w.heap.size < w1.heap.size := by omega
          have HRES := Lib.hid ((Below.heap_alloc w1 (.cells #[.int .i64 e, .int .i64 d, .int .i64 t, .int .i64 a, .int .i64 h] 23) (w.heap.size + 1) (by omega)).trans hres)
          have HB := Lib.hid (((bel2 w _ _).trans (hB.mono (by simp; omega))).alloc (by omega) (.cells #[.int .i64 e, .int .i64 d, .int .i64 t, .int .i64 a, .int .i64 h] 23))
          clear hB hres
          go_wp2_with fail
          refine (HV.out _ (tb.below HB.out)).mono ?_
          rintro r w2 ⟨rfl, hB2⟩
          have HRES2 := Lib.hid ((hB2.block (w.heap.size + 1) (Array.getElem?_eq_some_iff.1 HRES.out).1).trans HRES.out)
          have HB2 := Lib.hid (HB.out.trans (hB2.mono HB.out.size))
          clear hB2 hc0 hc1 hc2 HRES
          go_wp2_with (refine wpList_store_row rfl 23 _ _ rfl (w.heap.size + 1) #[.int .i64 0, .int .i64 0, .int .i64 0, .int .i64 0, .int .i64 0] rfl rfl 23 _ HRES2.out sizeD rfl (one5 _ _ _ _ _) ?_)
          refine bodyPost_ret (results_row_tmp2 (ty := 23) rfl _ _ (w.heap.size + 1) 23 #[.int .i64 0, .int .i64 0, .int .i64 0, .int .i64 0, .int .i64 0] (0, 0) _ _ _ rfl rfl rfl (setRow_heap _ _ _ _ _ _ HRES2.out) Tryd.underlying23 rfl sizeD) rfl ⟨?_, below_setRow HB2.out (by omega) _⟩
          rfl
        · have h0b : (v == 0) = false := by simpa using h0
          by_cases h8 : v < -8 ∨ 8 < v
          · rw [if_pos (Or.inr h8)] at hp
            subst hp
            have HW := Lib.hid (show decide (-8 ≤ v ∧ v ≤ 8) = false by simp; omega)
            clear h8 h0
            go_enter Tryd.func54, Tryd.ntmps54
            go_wp2_with fail
            refine (HL.out _ HT.out).mono ?_
            rintro r w1 ⟨rfl, hB⟩
            have hc := (bcell hB).1
            have hc0 : w1.cell? ⟨w.heap.size, 0, none⟩ = some (.string u) := (hc _ _ (by simp; omega)).trans (World.cell?_alloc2_first _ _ _ _)
            have hc1 : w1.cell? ⟨w.heap.size, 1, none⟩ = some (.string x) := (hc _ _ (by simp; omega)).trans (World.cell?_alloc2_first _ _ _ _)
            have hc2 : w1.cell? ⟨w.heap.size, 2, none⟩ = some (.bool true) := (hc _ _ (by simp; omega)).trans (World.cell?_alloc2_first _ _ _ _)
            clear hc
            have hres := (hB.block (w.heap.size + 1) (by simp)).trans (b21 w _ _)
            have hsz : w.heap.size + 1 < w1.heap.size := (Array.getElem?_eq_some_iff.1 hres).1
            have hlt : w.heap.size < w1.heap.size := by omega
            have HRES := Lib.hid ((Below.heap_alloc w1 (.cells #[.int .i64 e, .int .i64 d, .int .i64 t, .int .i64 a, .int .i64 h] 23) (w.heap.size + 1) (by omega)).trans hres)
            have HB := Lib.hid (((bel2 w _ _).trans (hB.mono (by simp; omega))).alloc (by omega) (.cells #[.int .i64 e, .int .i64 d, .int .i64 t, .int .i64 a, .int .i64 h] 23))
            clear hB hres
            go_wp2_with fail
            refine (HV.out _ (tb.below HB.out)).mono ?_
            rintro r w2 ⟨rfl, hB2⟩
            have HRES2 := Lib.hid ((hB2.block (w.heap.size + 1) (Array.getElem?_eq_some_iff.1 HRES.out).1).trans HRES.out)
            have HB2 := Lib.hid (HB.out.trans (hB2.mono HB.out.size))
            clear hB2 hc0 hc1 hc2 HRES
            go_wp2_with fail
            refine (pwithin_any v 8 _ (by omega)).mono ?_
            rintro r w3 ⟨rfl, rfl⟩
            rw [HW.out]
            go_wp2_with (refine wpList_store_row rfl 23 _ _ rfl (w.heap.size + 1) #[.int .i64 0, .int .i64 0, .int .i64 0, .int .i64 0, .int .i64 0] rfl rfl 23 _ HRES2.out sizeD rfl (one5 _ _ _ _ _) ?_)
            refine bodyPost_ret (results_row_tmp2 (ty := 23) rfl _ _ (w.heap.size + 1) 23 #[.int .i64 0, .int .i64 0, .int .i64 0, .int .i64 0, .int .i64 0] (0, 0) _ _ _ rfl rfl rfl (setRow_heap _ _ _ _ _ _ HRES2.out) Tryd.underlying23 rfl sizeD) rfl ⟨?_, below_setRow HB2.out (by omega) _⟩
            rfl
          · rw [if_neg (by omega)] at hp
            subst hp
            have HW := Lib.hid (show decide (-8 ≤ v ∧ v ≤ 8) = true by simp; omega)
            have HR := Lib.hid (fun W => praised_any ⟨e, d, t, a, h⟩ v W HIN.out (by omega))
            clear h8 h0
            go_enter Tryd.func54, Tryd.ntmps54
            go_wp2_with fail
            refine (HL.out _ HT.out).mono ?_
            rintro r w1 ⟨rfl, hB⟩
            have hc := (bcell hB).1
            have hc0 : w1.cell? ⟨w.heap.size, 0, none⟩ = some (.string u) := (hc _ _ (by simp; omega)).trans (World.cell?_alloc2_first _ _ _ _)
            have hc1 : w1.cell? ⟨w.heap.size, 1, none⟩ = some (.string x) := (hc _ _ (by simp; omega)).trans (World.cell?_alloc2_first _ _ _ _)
            have hc2 : w1.cell? ⟨w.heap.size, 2, none⟩ = some (.bool true) := (hc _ _ (by simp; omega)).trans (World.cell?_alloc2_first _ _ _ _)
            clear hc
            have hres := (hB.block (w.heap.size + 1) (by simp)).trans (b21 w _ _)
            have hsz : w.heap.size + 1 < w1.heap.size := (Array.getElem?_eq_some_iff.1 hres).1
            have hlt : w.heap.size < w1.heap.size := by omega
            have HRES := Lib.hid ((Below.heap_alloc w1 (.cells #[.int .i64 e, .int .i64 d, .int .i64 t, .int .i64 a, .int .i64 h] 23) (w.heap.size + 1) (by omega)).trans hres)
            have HB := Lib.hid (((bel2 w _ _).trans (hB.mono (by simp; omega))).alloc (by omega) (.cells #[.int .i64 e, .int .i64 d, .int .i64 t, .int .i64 a, .int .i64 h] 23))
            clear hB hres
            go_wp2_with fail
            refine (HV.out _ (tb.below HB.out)).mono ?_
            rintro r w2 ⟨rfl, hB2⟩
            have HRES2 := Lib.hid ((hB2.block (w.heap.size + 1) (Array.getElem?_eq_some_iff.1 HRES.out).1).trans HRES.out)
            have HB2 := Lib.hid (HB.out.trans (hB2.mono HB.out.size))
            have hdc : ∀ k, w2.cell? ⟨w1.heap.size, k, none⟩ = (#[.int .i64 e, .int .i64 d, .int .i64 t, .int .i64 a, .int .i64 h] : Array Value)[k]? := fun k => ((bcell hB2).1 _ _ (by simp)).trans (World.cell?_alloc_new _ _ _ _)
            have hd0 : w2.cell? ⟨w1.heap.size, 0, none⟩ = some (.int .i64 e) := hdc 0
            have hd1 : w2.cell? ⟨w1.heap.size, 1, none⟩ = some (.int .i64 d) := hdc 1
            have hd2 : w2.cell? ⟨w1.heap.size, 2, none⟩ = some (.int .i64 t) := hdc 2
            have hd3 : w2.cell? ⟨w1.heap.size, 3, none⟩ = some (.int .i64 a) := hdc 3
            have hd4 : w2.cell? ⟨w1.heap.size, 4, none⟩ = some (.int .i64 h) := hdc 4
            clear hdc
            clear hB2 hc0 hc1 hc2 HRES
            go_wp2_with fail
            refine (pwithin_any v 8 _ (by omega)).mono ?_
            rintro r w3 ⟨rfl, rfl⟩
            rw [HW.out]
            go_wp2_with fail
            refine (HR.out _).mono ?_
            rintro r w3 ⟨rfl, hB3⟩
            have HRES3 := Lib.hid ((hB3.block (w.heap.size + 1) (Array.getElem?_eq_some_iff.1 HRES2.out).1).trans HRES2.out)
            have HB3 := Lib.hid (HB2.out.trans (hB3.mono HB2.out.size))
            clear hB3
            go_wp2_with (refine wpList_store_row rfl 23 _ _ rfl (w.heap.size + 1) #[.int .i64 (v * e), .int .i64 (v * d), .int .i64 (v * t), .int .i64 (v * a), .int .i64 (v * h)] rfl rfl 23 _ HRES3.out sizeD rfl (one5 _ _ _ _ _) ?_)
            refine bodyPost_ret (results_row_tmp2 (ty := 23) rfl _ _ (w.heap.size + 1) 23 #[.int .i64 (v * e), .int .i64 (v * d), .int .i64 (v * t), .int .i64 (v * a), .int .i64 (v * h)] (0, 0) _ _ _ rfl rfl rfl (setRow_heap _ _ _ _ _ _ HRES3.out) Tryd.underlying23 rfl sizeD) rfl ⟨?_, below_setRow HB3.out (by omega) _⟩
            rfl
      · simp only [ne_eq, hs, not_false_eq_true, if_true] at hp
        subst hp
        have hs1 : (sz == 1) = false := by simpa using hs
        clear hs
        go_enter Tryd.func54, Tryd.ntmps54
        go_wp2_with fail
        refine (HL.out _ HT.out).mono ?_
        rintro r w1 ⟨rfl, hB⟩
        have hc := (bcell hB).1
        have hc0 : w1.cell? ⟨w.heap.size, 0, none⟩ = some (.string u) := (hc _ _ (by simp; omega)).trans (World.cell?_alloc2_first _ _ _ _)
        have hc1 : w1.cell? ⟨w.heap.size, 1, none⟩ = some (.string x) := (hc _ _ (by simp; omega)).trans (World.cell?_alloc2_first _ _ _ _)
        have hc2 : w1.cell? ⟨w.heap.size, 2, none⟩ = some (.bool true) := (hc _ _ (by simp; omega)).trans (World.cell?_alloc2_first _ _ _ _)
        clear hc
        have hres := (hB.block (w.heap.size + 1) (by simp)).trans (b21 w _ _)
        have hsz : w.heap.size + 1 < w1.heap.size := (Array.getElem?_eq_some_iff.1 hres).1
        have hlt : w.heap.size < w1.heap.size := by omega
        have HRES := Lib.hid ((Below.heap_alloc w1 (.cells #[.int .i64 e, .int .i64 d, .int .i64 t, .int .i64 a, .int .i64 h] 23) (w.heap.size + 1) (by omega)).trans hres)
        have HB := Lib.hid (((bel2 w _ _).trans (hB.mono (by simp; omega))).alloc (by omega) (.cells #[.int .i64 e, .int .i64 d, .int .i64 t, .int .i64 a, .int .i64 h] 23))
        clear hB hres
        go_wp2_with (refine wpList_store_row rfl 23 _ _ rfl (w.heap.size + 1) #[.int .i64 0, .int .i64 0, .int .i64 0, .int .i64 0, .int .i64 0] rfl rfl 23 _ HRES.out sizeD rfl (one5 _ _ _ _ _) ?_)
        refine bodyPost_ret (results_row_tmp2 (ty := 23) rfl _ _ (w.heap.size + 1) 23 #[.int .i64 0, .int .i64 0, .int .i64 0, .int .i64 0, .int .i64 0] (0, 0) _ _ _ rfl rfl rfl (setRow_heap _ _ _ _ _ _ HRES.out) Tryd.underlying23 rfl sizeD) rfl ⟨?_, below_setRow HB.out (by omega) _⟩
        rfl
end U
end Go.Proofs.YthcehhonahgfmaaDoor
