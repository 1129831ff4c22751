/-
  Contract of the program's Lookup.
-/
import Derived.Test.YthcehhonahgfmaaDoorUTab
import Derived.Test.YthcehhonahgfmaaDoorURef5
import Derived.Deep.MidRow
namespace Go.Proofs.YthcehhonahgfmaaDoor
open Go.RowKit
namespace U
open H
set_option linter.unusedVariables false

/-- The j-th row of the table. -/
def uRow (j : Nat) : List UInt8 × Int × Dm := unitL[j]?.getD ([], 0, .zero)
theorem look_hit (j : Nat) (hj : j < 13) (s : List UInt8) (h : (uRow j).1 = s) : lookT s = ((uRow j).2.2, (uRow j).2.1, true) := by
  subst h
  have hall : (List.range 13).map (fun j => lookT (uRow j).1) = (List.range 13).map (fun j => ((uRow j).2.2, (uRow j).2.1, true)) := by decide +kernel
  have h := congrArg (·[j]?) hall
  simpa only [List.getElem?_map, List.getElem?_range hj, Option.map_some, Option.some.injEq] using h
theorem look_miss (s : List UInt8) (h : ∀ j, j < 13 → (uRow j).1 ≠ s) : lookT s = (.zero, 0, false) := by
  have hh : ∀ j, j < 13 → (s == (uRow j).1) = false := fun j hj => by simpa using fun e => h j hj e.symm
  unfold lookT
  have h0 := hh 0 (by omega); have h1 := hh 1 (by omega); have h2 := hh 2 (by omega); have h3 := hh 3 (by omega); have h4 := hh 4 (by omega); have h5 := hh 5 (by omega); have h6 := hh 6 (by omega)
  have h7 := hh 7 (by omega); have h8 := hh 8 (by omega); have h9 := hh 9 (by omega); have h10 := hh 10 (by omega); have h11 := hh 11 (by omega); have h12 := hh 12 (by omega)
  simp only [uRow, unitL, List.getElem?_cons_zero, List.getElem?_cons_succ, Option.getD_some] at h0 h1 h2 h3 h4 h5 h6 h7 h8 h9 h10 h11 h12
  simp only [h0, h1, h2, h3, h4, h5, h6, h7, h8, h9, h10, h11, h12, Bool.false_eq_true, if_false]
theorem unit_row (j : Nat) (hj : j < 13) : unitC.toArray.extract (j * 7) (j * 7 + 7) = (rowC (uRow j)).toArray := by
  have hall : (List.range 13).map (fun j => unitC.toArray.extract (j * 7) (j * 7 + 7)) = (List.range 13).map (fun j => (rowC (uRow j)).toArray) := by kernel_rfl
  have h := congrArg (·[j]?) hall
  simpa only [List.getElem?_map, List.getElem?_range hj, Option.map_some, Option.some.injEq] using h
theorem run_index_unit (j : Nat) (hj : j < 13) (w : World) : (Instr.index 48 (.agg unitC.toArray) (.int .i64 (j : Int))).run Tryd.prog w = .ok (.agg (rowC (uRow j)).toArray) w := by
  have h1 : (0 : Int) ≤ (j : Int) ∧ (j : Int) < 13 := by omega
  have hr := unit_row j hj
  simp only [List.extract_toArray, List.extract_eq_take_drop, Nat.add_sub_cancel_left] at hr
  simp [Instr.index, run_underlying Tryd.underlying48, asIntOf, go_sem, h1, part, hj]
  exact List.toArray_inj hr
theorem unitC_at {w : World} : Tab w → w.rangeAt 0 0 unitC := fun h j v hv => by
  have hl : j < 91 := by
    have := (List.getElem?_eq_some_iff.1 hv).1
    have hu : unitC.length = 91 := by kernel_rfl
    omega
  rw [Nat.zero_add, h.units j hl, hv]
set_option maxRecDepth 100000 in
set_option maxHeartbeats 1000000 in
theorem plook_any (s : ByteArray) (w : World) (tb : Tab w) :
    Calls Tryd.prog 14 #[.string s] w fun r w' => r = .returned (.tuple #[.agg #[.int .i64 (lookT s.toList).1.e, .int .i64 (lookT s.toList).1.d, .int .i64 (lookT s.toList).1.t, .int .i64 (lookT s.toList).1.a, .int .i64 (lookT s.toList).1.h], .int .i64 (lookT s.toList).2.1, .bool (lookT s.toList).2.2]) ∧ Below w.heap.size w w' := by
  have hb := bel1 w (.cells #[.int .i64 0, .int .i64 0, .int .i64 0, .int .i64 0, .int .i64 0] 23)
  have hat := unitC_at (tb.below hb)
  have HX := Lib.hid (fun j h W => run_index_unit j h W)
  have HAT := Lib.hid hat
  clear hat
  have hul : unitC.length = 91 := by kernel_rfl
  have hui : (Tryd.prog.info? 48).map (·.size) = some unitC.length := by kernel_rfl
  obtain ⟨cs, hcs⟩ : ∃ cs, unitC = cs := ⟨_, rfl⟩
  rw [hcs] at HX HAT hul hui
  clear hcs
  go_enter Tryd.func14, Tryd.ntmps14
  go_wp2_with (refine wpList_load_mid rfl 48 (.global 0) rfl 0 0 rfl cs _ HAT.out Tryd.underlying48 rfl hui ?_)
  go_loopg [8] 13 (fun g i wr => ∃ j : Nat, j + g = 13 ∧ i = .int .i64 j ∧ (∀ l, l < j → (uRow l).1 ≠ s.toList) ∧ Below w.heap.size w wr ∧ w.heap.size < wr.heap.size ∧ wr.heap[w.heap.size]? = some (.cells #[.int .i64 0, .int .i64 0, .int .i64 0, .int .i64 0, .int .i64 0] 23 (0, 0)))
  case atStart => exact ⟨0, rfl, rfl, fun l hl => by omega, hb, by simp, heap_alloc_new w _⟩
  case round =>
    obtain ⟨j, hg, rfl, hno, hbw, hsz, hres⟩ := hrel
    have HG := Lib.hid hg
    have HNO := Lib.hid hno
    have HBW := Lib.hid hbw
    have HRES := Lib.hid hres
    have hj5 : j ≤ 13 := by omega
    clear hg hno hbw hres
    by_cases hlt : j < 13
    · have hi : (j : Int) < 13 := by omega
      have hi0 : (0 : Int) ≤ (j : Int) := by omega
      have hix := HX.out j hlt wr
      obtain ⟨r, hr⟩ : ∃ r, uRow j = r := ⟨_, rfl⟩
      rw [hr] at hix
      obtain ⟨nl, k, e, d, t, a, h⟩ := r
      obtain ⟨nb, hnb⟩ : ∃ nb : ByteArray, (⟨nl.toArray⟩ : ByteArray) = nb := ⟨_, rfl⟩
      have hrc : (rowC (nl, k, ⟨e, d, t, a, h⟩)).toArray = #[.string nb, .int .i64 k, .int .i64 e, .int .i64 d, .int .i64 t, .int .i64 a, .int .i64 h] := by rw [← hnb]; rfl
      rw [hrc] at hix
      have HIX := Lib.hid hix
      have HR := Lib.hid hr
      have HNB := Lib.hid (show nb.toList = nl by rw [← hnb, ByteArray.toList_eq])
      clear hix hr hrc hnb
      by_cases hn : nl = s.toList
      · have heq : (nb.toList == s.toList) = true := by rw [HNB.out, hn]; simp
        have HL := Lib.hid (look_hit j hlt s.toList (by rw [HR.out]; exact hn))
        clear hn
        go_wp2_with fail
        rw [HIX.out]
        go_wp2_with fail
        have hS9 : (fun W1 => (∀ o, W1.cell? ⟨wr.heap.size, o, none⟩ = (#[.string nb, .int .i64 k, .int .i64 e, .int .i64 d, .int .i64 t, .int .i64 a, .int .i64 h] : Array Value)[o]?) ∧ (∃ cur : Array Value, W1.heap[w.heap.size]? = some (.cells cur 23 (0, 0)) ∧ cur.size = 5) ∧ wr.heap.size < W1.heap.size ∧ Below w.heap.size w W1) (wr.alloc (.cells #[.string nb, .int .i64 k, .int .i64 e, .int .i64 d, .int .i64 t, .int .i64 a, .int .i64 h] 47)).drew := ⟨fun o => cell_of_row (wr.alloc (.cells #[.string nb, .int .i64 k, .int .i64 e, .int .i64 d, .int .i64 t, .int .i64 a, .int .i64 h] 47)) wr.heap.size o _ _ _ (heap_alloc_new wr _), ⟨_, (Below.heap_alloc _ _ _ (by omega)).trans HRES.out, rfl⟩, by show wr.heap.size < (wr.alloc (.cells #[.string nb, .int .i64 k, .int .i64 e, .int .i64 d, .int .i64 t, .int .i64 a, .int .i64 h] 47)).heap.size; simp, (HBW.out.alloc HBW.out.size _).drew⟩
        refine wp_region_noPanic ?_
        refine wp_region_held_drew (S := (fun W1 => (∀ o, W1.cell? ⟨wr.heap.size, o, none⟩ = (#[.string nb, .int .i64 k, .int .i64 e, .int .i64 d, .int .i64 t, .int .i64 a, .int .i64 h] : Array Value)[o]?) ∧ (∃ cur : Array Value, W1.heap[w.heap.size]? = some (.cells cur 23 (0, 0)) ∧ cur.size = 5) ∧ wr.heap.size < W1.heap.size ∧ Below w.heap.size w W1)) (by kernel_rfl) (hS9) (fun hHeld => ?_)
        refine wpAnyH_take (i := 0) (oi := { dst := some 15, op := _, type := _, pos := _, after := _, guard := _ }) (v := ?_) rfl (by kernel_rfl) (by kernel_rfl) (by kernel_rfl) (fun _ _ _ h => h) (Or.inl ⟨by rfl, ?_⟩) (by assumption) ?_
        rotate_left
        · (intro w hSw; (try dsimp only at hSw); (try obtain ⟨hS0, hS1, hS2, hS3⟩ := hSw); go_simp)
          first | done | with_reducible rfl
        try simp only [Act.put, List.setIfInBounds_toArray, List.set_cons_zero, List.set_cons_succ]
        refine wpAnyH_take (i := 1) (oi := { dst := some 16, op := _, type := _, pos := _, after := _, guard := _ }) (v := ?_) rfl (by kernel_rfl) (by kernel_rfl) (by kernel_rfl) (fun _ _ _ h => h) (Or.inl ⟨by rfl, ?_⟩) (by assumption) ?_
        rotate_left
        · (intro w hSw; (try dsimp only at hSw); (try obtain ⟨hS0, hS1, hS2, hS3⟩ := hSw); go_simp)
          first | done | with_reducible rfl
        try simp only [Act.put, List.setIfInBounds_toArray, List.set_cons_zero, List.set_cons_succ]
        refine wpAnyH_take (i := 2) (oi := { dst := some 17, op := _, type := _, pos := _, after := _, guard := _ }) (v := ?_) rfl (by kernel_rfl) (by kernel_rfl) (by kernel_rfl) (fun _ _ _ h => h) (Or.inl ⟨by rfl, ?_⟩) (by assumption) ?_
        rotate_left
        · (intro w hSw; (try dsimp only at hSw); (try obtain ⟨hS0, hS1, hS2, hS3⟩ := hSw); go_simp)
          first | done | with_reducible rfl
        try simp only [Act.put, List.setIfInBounds_toArray, List.set_cons_zero, List.set_cons_succ]
        refine wpAnyH_take (i := 3) (oi := { dst := some 18, op := _, type := _, pos := _, after := _, guard := _ }) (v := ?_) rfl (by kernel_rfl) (by kernel_rfl) (by kernel_rfl) (fun _ _ _ h => h) (Or.inl ⟨by rfl, ?_⟩) (by assumption) ?_
        rotate_left
        · (intro w hSw; (try dsimp only at hSw); (try obtain ⟨hS0, hS1, hS2, hS3⟩ := hSw); go_simp)
          first | done | with_reducible rfl
        try simp only [Act.put, List.setIfInBounds_toArray, List.set_cons_zero, List.set_cons_succ]
        refine wpAnyH_ready (rs := [4]) (by kernel_rfl) (by simp) ?_
        refine AllReadyH.cons (o := { dst := none, op := _, type := _, pos := _, after := _, guard := _ }) rfl (fun K hK => ?_) AllReadyH.nil
        refine if_wanted rfl ?_
        obtain ⟨cur, hcur, hcs⟩ := hS9.2.1
        refine wp_store_row 23 _ _ rfl w.heap.size #[.int .i64 e, .int .i64 d, .int .i64 t, .int .i64 a, .int .i64 h] rfl rfl 23 cur hcur sizeD hcs (one5 _ _ _ _ _) ?_
        have hS10 : (fun W1 => (∀ o, W1.cell? ⟨wr.heap.size, o, none⟩ = (#[.string nb, .int .i64 k, .int .i64 e, .int .i64 d, .int .i64 t, .int .i64 a, .int .i64 h] : Array Value)[o]?) ∧ (∃ cur : Array Value, W1.heap[w.heap.size]? = some (.cells cur 23 (0, 0)) ∧ cur.size = 5) ∧ wr.heap.size < W1.heap.size ∧ Below w.heap.size w W1) (World.setRow _ w.heap.size #[.int .i64 e, .int .i64 d, .int .i64 t, .int .i64 a, .int .i64 h]) := ⟨fun o => by rw [cell_setRow_other _ _ _ _ (by show wr.heap.size ≠ _; omega)]; exact hS9.1 o, ⟨#[.int .i64 e, .int .i64 d, .int .i64 t, .int .i64 a, .int .i64 h], setRow_heap _ _ _ _ _ _ hcur, rfl⟩, by rw [size_setRow]; exact hS9.2.2.1, below_setRow hS9.2.2.2 (by omega) _⟩
        refine hK.out _ _ hS10 (fun hH2 => ?_)
        clear hK K hHeld
        rename _ => hHeld
        try simp only [Act.put]
        refine wpAnyH_take (i := 5) (oi := { dst := some 3, op := _, type := _, pos := _, after := _, guard := _ }) (v := ?_) rfl (by kernel_rfl) (by kernel_rfl) (by kernel_rfl) (fun _ _ _ h => h) (Or.inl ⟨by rfl, ?_⟩) (by assumption) ?_
        rotate_left
        · (intro w hSw; (try dsimp only at hSw); (try obtain ⟨hS0, hS1, hS2, hS3⟩ := hSw); go_simp)
          first | done | with_reducible rfl
        try simp only [Act.put, List.setIfInBounds_toArray, List.set_cons_zero, List.set_cons_succ]
        refine wpAnyH_take (i := 6) (oi := { dst := some 4, op := _, type := _, pos := _, after := _, guard := _ }) (v := ?_) rfl (by kernel_rfl) (by kernel_rfl) (by kernel_rfl) (fun _ _ _ h => h) (Or.inl ⟨by rfl, ?_⟩) (by assumption) ?_
        rotate_left
        · (intro w hSw; (try dsimp only at hSw); (try obtain ⟨hS0, hS1, hS2, hS3⟩ := hSw); go_simp)
          first | done | with_reducible rfl
        try simp only [Act.put, List.setIfInBounds_toArray, List.set_cons_zero, List.set_cons_succ]
        refine wpAnyH_done (by kernel_rfl) ?_ _
        refine NoPanic.normal ?_
        have HB := Lib.hid hS10.2.2.2
        have HRES2 := Lib.hid (setRow_heap _ _ _ #[.int .i64 e, .int .i64 d, .int .i64 t, .int .i64 a, .int .i64 h] _ _ hcur)
        clear hHeld hS9 hS10
        go_wp2_with fail
        refine bodyPost_ret (results_row_tmp2 (ty := 23) rfl _ _ w.heap.size 23 _ (0, 0) _ _ _ rfl rfl rfl HRES2.out Tryd.underlying23 rfl sizeD) rfl ⟨?_, HB.out⟩
        rw [HL.out, HR.out]
        rfl
      · have heq : (nb.toList == s.toList) = false := by rw [HNB.out]; simpa using hn
        have HN := Lib.hid hn
        have HLT := Lib.hid hlt
        clear hn hlt
        go_wp2_with fail
        rw [HIX.out]
        go_wp2_with fail
        go_roundg (gk - 1)
        case measure => have := HG.out; have := HLT.out; omega
        case rel =>
          refine ⟨j + 1, by have := HG.out; have := HLT.out; omega, by go_num, fun l hl => ?_, ?_, ?_, ?_⟩
          · by_cases hlj : l = j
            · rw [hlj, HR.out]; exact HN.out
            · exact HNO.out l (by omega)
          · exact HBW.out.alloc HBW.out.size _
          · simp; omega
          · rw [Below.heap_alloc _ _ _ (by omega)]; exact HRES.out
    · have HL := Lib.hid (look_miss s.toList (fun j hj => HNO.out j (by omega)))
      have hi : ¬ (j : Int) < 13 := by omega
      clear hlt
      go_wp2_with (refine wpList_store_row rfl 23 _ _ rfl w.heap.size #[.int .i64 0, .int .i64 0, .int .i64 0, .int .i64 0, .int .i64 0] rfl rfl 23 _ HRES.out sizeD rfl (one5 _ _ _ _ _) ?_)
      refine bodyPost_ret (results_row_tmp2 (ty := 23) rfl _ _ w.heap.size 23 _ (0, 0) _ _ _ rfl rfl rfl (setRow_heap _ _ _ _ _ _ HRES.out) Tryd.underlying23 rfl sizeD) rfl ⟨?_, below_setRow HBW.out (by omega) _⟩
      rw [HL.out]
      rfl
end U
end Go.Proofs.YthcehhonahgfmaaDoor
