/-
  Contracts of the program's Name and Print.
-/
import Derived.Test.YthcehhonahgfmaaDoorUP2
import Derived.Test.YthcehhonahgfmaaDoorUJoin
import Derived.Test.YthcehhonahgfmaaDoorApp2
namespace Go.Proofs.YthcehhonahgfmaaDoor
open Go.RowKit
namespace U
open H
set_option linter.unusedVariables false

theorem base_cell {w : World} (tb : Tab w) (j : Nat) (hj : j < 5) : w.cell? ⟨1, j, none⟩ = some (.string ⟨(base j).toArray⟩) := by
  rw [tb.bases j hj]
  match j, hj with
  | 0, _ => rfl
  | 1, _ => rfl
  | 2, _ => rfl
  | 3, _ => rfl
  | 4, _ => rfl
theorem infoS : (Tryd.prog.info? 9).map (fun i => (i.zero, i.size, i.bytes)) = some (some (.string ⟨#[]⟩), 1, 16) := by kernel_rfl
/-- The parts as values. -/
def strs (ps : List (List UInt8)) : List Value := ps.map fun p => .string ⟨p.toArray⟩
theorem cells_own {w : World} {g : Nat} {cur : Array Value} {e : TypeId} {fr : Nat × Nat} (h : w.heap[g]? = some (.cells cur e fr)) (k : Nat) (ps : List (List UInt8)) (ht : cur.toList.take k = strs ps) (j : Nat) (x : ByteArray) (hx : (ps.map fun p => (⟨p.toArray⟩ : ByteArray))[j]? = some x) : w.cell? ⟨g, 0 + j, none⟩ = some (.string x) := by
  have h1 : (strs ps)[j]? = some (.string x) := by
    unfold strs
    rw [List.getElem?_map] at hx ⊢
    cases hp : ps[j]? with
    | none => rw [hp] at hx; cases hx
    | some p => rw [hp] at hx; injection hx with hx; rw [← hx]; rfl
  rw [Nat.zero_add, cell_of_row _ g j _ _ _ h]
  rw [← ht, List.getElem?_take] at h1
  split at h1
  · simpa using h1
  · cases h1
/-- Join over an own row of the parts. -/
theorem join_own (ps : List (List UInt8)) (sep : List UInt8) (z : Value) (w : World) (base : Nat) (ho : w.ownsRow base 9 1 z ps.length (strs ps)) (hN : ps.length ≤ 100000) (hlen : (Lib.join ps sep).length ≤ 100000) :
    Calls Tryd.prog 46 #[z, .string ⟨sep.toArray⟩] w fun r w' => r = .returned (.string ⟨(Lib.join ps sep).toArray⟩) ∧ Below w.heap.size w w' := by
  rcases ho.2 with ⟨hz, h0⟩ | ⟨g, cap, cur, hz, hg, hh, hle, hcap, hsz, htk⟩
  · have hp : ps = [] := List.eq_nil_of_length_eq_zero h0
    subst hp
    rw [hz]
    refine (Tryd.strings_Join_none none 0 ⟨sep.toArray⟩ w).mono ?_
    rintro r w' ⟨rfl, rfl⟩
    exact ⟨rfl, Below.refl _ _⟩
  · rw [hz]
    have hm : (ps.map fun p => (⟨p.toArray⟩ : ByteArray)).map (·.data.toList) = ps := by
      rw [List.map_map]
      conv => rhs; rw [← List.map_id ps]
      exact List.map_congr_left fun p _ => rfl
    have h := Tryd.strings_Join g 0 cap (ps.map fun p => (⟨p.toArray⟩ : ByteArray)) ⟨sep.toArray⟩ w (cells_own hh _ ps htk) (Array.getElem?_eq_some_iff.1 hh).1 (by simp; omega) (by simpa using hle) (by rw [hm]; show (Lib.join ps sep).length ≤ _; omega)
    rw [hm, List.length_map] at h
    exact h
set_option maxRecDepth 100000 in
set_option maxHeartbeats 1000000 in
theorem pname_any (x : Dm) (w : World) (tb : Tab w) (hx : x.ok) :
    Calls Tryd.prog 22 #[.agg #[.int .i64 x.e, .int .i64 x.d, .int .i64 x.t, .int .i64 x.a, .int .i64 x.h]] w fun r w' => r = .returned (.string ⟨(nameT x).toArray⟩) ∧ Below w.heap.size w w' := by
  have HE := Lib.hid (fun W => pexp_any x W)
  have hp := tb.pos
  obtain ⟨i0, hi0, hz0, hz1, hz2⟩ := info_parts infoS
  go_enter Tryd.func22, Tryd.ntmps22
  go_wp2_with fail
  refine (HE.out _).mono ?_
  rintro r w1 ⟨rfl, hB⟩
  have HB := Lib.hid ((bel1 w _).trans (hB.mono (by simp)))
  clear hB
  go_wp2_with fail
  go_loopg [3, 8] 5 (fun g y i wr => ∃ (j : Nat) (z : Value), j + g = 5 ∧ z = y ∧ i = .int .i64 j ∧ wr.ownsRow w.heap.size 9 1 z (pcsK x j).length (strs (pcsK x j)) ∧ Below w.heap.size w wr)
  case atStart => exact ⟨0, _, rfl, rfl, rfl, World.ownsRow_nil _ _ _ _, HB.out⟩
  case round =>
    obtain ⟨j, z, hg, rfl, rfl, hown, hb⟩ := hrel
    have HG := Lib.hid hg
    have hj5 : j ≤ 5 := by omega
    have HO := Lib.hid hown
    have HBW := Lib.hid hb
    have hsz := hb.size
    have hpos : 0 < wr.heap.size := by omega
    clear hg hown hb
    by_cases hlt : j < 5
    · have hi : (j : Int) < 5 := by omega
      have hj0 : (0 : Int) ≤ (j : Int) := by omega
      have hix := run_index5 x j hlt wr
      have hv := list_ok hx j
      obtain ⟨v, hve⟩ : ∃ v, x.list[j]?.getD 0 = v := ⟨_, rfl⟩
      rw [hve] at hix hv
      have HIX := Lib.hid hix
      have HS := Lib.hid (hve ▸ pcsK_succ x j)
      clear hve hix
      by_cases h0 : v = 0
      · have h0b : (v == 0) = true := by simp [h0]
        have HS2 := Lib.hid (HS.out.trans (if_pos h0))
        have HLT := Lib.hid hlt
        clear h0 hlt
        go_wp2_with fail
        rw [HIX.out]
        go_wp2_with fail
        go_roundg (gk - 1)
        case measure => have := HG.out; have := HLT.out; omega
        case rel => exact ⟨j + 1, _, by have := HG.out; have := HLT.out; omega, rfl, by go_num, by rw [HS2.out]; exact HO.out, HBW.out⟩
      · have h0b : (v == 0) = false := by simp [h0]
        have HLT := Lib.hid hlt
        have HBC := Lib.hid (base_cell (tb.below HBW.out) j hlt)
        clear hlt
        by_cases h1 : v = 1
        · have h1b : (v == 1) = true := by simp [h1]
          have HS2 := Lib.hid (show pcsK x (j + 1) = pcsK x j ++ [base j] by rw [HS.out, if_neg h0]; unfold fac; rw [if_pos h1])
          go_wp2_with fail
          rw [HIX.out]
          have hbc := HBC.out
          have hpl := pcsK_len x j
          go_wp2_with (at_builtin; refine wpList_append_new rfl (.tmp 27) (.tmp 31) 52 rfl w.heap.size 9 i0 (.string ⟨#[]⟩) 1 16 Tryd.underlying52 hi0 hz0 hz1 hz2 rfl (by decide) _ _ _ rfl (ownsRow_below HO.out (bel1 wr _)) wr.heap.size 1 [.string ⟨(base j).toArray⟩] rfl rfl (fun l u hu => by rw [cell_of_row _ wr.heap.size l _ _ _ (heap_alloc_new wr _)]; simpa using hu) (by simp [Value.oneCell']) (by unfold maxLen; omega) (by omega) (by have := HBW.out.size; simp; omega) ?_; intro v2 w2 ho2 hb2; have HO2 := Lib.hid ho2; have HB2 := Lib.hid ((HBW.out.alloc HBW.out.size _).trans hb2); clear ho2 hb2)
          go_roundg (gk - 1)
          case measure => have := HG.out; have := HLT.out; omega
          case rel => exact ⟨j + 1, _, by have := HG.out; have := HLT.out; omega, rfl, by go_num, by have h := HO2.out; rw [HS2.out]; simpa [strs] using h, HB2.out⟩
        · have h1b : (v == 1) = false := by simp [h1]
          have HS2 := Lib.hid (show pcsK x (j + 1) = pcsK x j ++ [base j ++ 94 :: Lib.itoa v] by rw [HS.out, if_neg h0]; unfold fac; rw [if_neg h1])
          have HIT := Lib.hid (fun W h => Tryd.strconv_Itoa v hv.1 hv.2 W h)
          have hbl := base_len j
          have hil := itoa_len hv
          obtain ⟨bb, hbb⟩ : ∃ bb : ByteArray, (⟨(base j).toArray⟩ : ByteArray) = bb := ⟨_, rfl⟩
          have hbl2 : bb.data.toList = base j := by rw [← hbb]
          have hbz : bb.size ≤ 3 := by rw [ba_size, hbl2]; exact hbl
          have HBL := Lib.hid hbl2
          have hbc := HBC.out
          rw [hbb] at hbc
          clear hbb hbl2 hbl h0 h1
          go_wp2_with fail
          rw [HIX.out]
          have hpl := pcsK_len x j
          go_wp2_with fail
          have hS9 : (fun W1 => W1.cell? ⟨1, j, none⟩ = some (.string bb) ∧ wr.heap.size ≤ W1.heap.size ∧ Below w.heap.size w W1) wr.drew := ⟨hbc, Nat.le_refl _, HBW.out.drew⟩
          refine wp_region_noPanic ?_
          refine wp_region_held_drew (S := (fun W1 => W1.cell? ⟨1, j, none⟩ = some (.string bb) ∧ wr.heap.size ≤ W1.heap.size ∧ Below w.heap.size w W1)) (by kernel_rfl) (hS9) (fun hHeld => ?_)
          refine wpAnyH_take (i := 0) (oi := { dst := some 13, op := _, type := _, pos := _, after := _, guard := _ }) (v := ?_) rfl (by kernel_rfl) (by kernel_rfl) (by kernel_rfl) (fun _ _ _ h => h) (Or.inl ⟨by rfl, ?_⟩) (by assumption) ?_
          rotate_left
          · (intro w hSw; (try dsimp only at hSw); (try obtain ⟨hS0, hS1, hS2⟩ := hSw); go_simp)
            first | done | with_reducible rfl
          try simp only [Act.put, List.setIfInBounds_toArray, List.set_cons_zero, List.set_cons_succ]
          refine wpAnyH_take (i := 1) (oi := { dst := some 14, op := _, type := _, pos := _, after := _, guard := _ }) (v := ?_) rfl (by kernel_rfl) (by kernel_rfl) (by kernel_rfl) (fun _ _ _ h => h) (Or.inl ⟨by rfl, ?_⟩) (by assumption) ?_
          rotate_left
          · (intro w hSw; (try dsimp only at hSw); (try obtain ⟨hS0, hS1, hS2⟩ := hSw); go_simp)
            first | done | with_reducible rfl
          try simp only [Act.put, List.setIfInBounds_toArray, List.set_cons_zero, List.set_cons_succ]
          refine wpAnyH_take (i := 2) (oi := { dst := some 15, op := _, type := _, pos := _, after := _, guard := _ }) (v := ?_) rfl (by kernel_rfl) (by kernel_rfl) (by kernel_rfl) (fun _ _ _ h => h) (Or.inl ⟨by rfl, ?_⟩) (by assumption) ?_
          rotate_left
          · (intro w hSw; (try dsimp only at hSw); (try obtain ⟨hS0, hS1, hS2⟩ := hSw); go_simp)
            first | done | with_reducible rfl
          try simp only [Act.put, List.setIfInBounds_toArray, List.set_cons_zero, List.set_cons_succ]
          refine wpAnyH_take (i := 3) (oi := { dst := some 16, op := _, type := _, pos := _, after := _, guard := _ }) (v := ?_) rfl (by kernel_rfl) (by kernel_rfl) (by kernel_rfl) (fun _ _ _ h => h) (Or.inl ⟨by rfl, ?_⟩) (by assumption) ?_
          rotate_left
          · (intro w hSw; (try dsimp only at hSw); (try obtain ⟨hS0, hS1, hS2⟩ := hSw); go_simp)
            first | done | with_reducible rfl
          try simp only [Act.put, List.setIfInBounds_toArray, List.set_cons_zero, List.set_cons_succ]
          refine wpAnyH_take (i := 4) (oi := { dst := some 17, op := _, type := _, pos := _, after := _, guard := _ }) (v := .string (bb ++ ⟨#[94]⟩)) rfl (by kernel_rfl) (by kernel_rfl) (by kernel_rfl) (fun _ _ _ h => h) (Or.inl ⟨by rfl, ?_⟩) (by assumption) ?_
          · (intro w hSw; (try dsimp only at hSw); go_simp)
            omega
          try simp only [Act.put, List.setIfInBounds_toArray, List.set_cons_zero, List.set_cons_succ]
          refine wpAnyH_take (i := 5) (oi := { dst := some 18, op := _, type := _, pos := _, after := _, guard := _ }) (v := ?_) rfl (by kernel_rfl) (by kernel_rfl) (by kernel_rfl) (fun _ _ _ h => h) (Or.inl ⟨by rfl, ?_⟩) (by assumption) ?_
          rotate_left
          · (intro w hSw; (try dsimp only at hSw); (try obtain ⟨hS0, hS1, hS2⟩ := hSw); go_simp)
            first | done | with_reducible rfl
          try simp only [Act.put, List.setIfInBounds_toArray, List.set_cons_zero, List.set_cons_succ]
          refine wpAnyH_ready (rs := [6]) (by kernel_rfl) (by simp) ?_
          refine AllReadyH.cons (o := { dst := some 19, op := _, type := _, pos := _, after := _, guard := _ }) rfl (fun K hK => ?_) AllReadyH.nil
          go_simp
          refine (HIT.out _ ((tb.below hS9.2.2).pow)).mono ?_
          rintro r w3 ⟨rfl, kk, os, hw⟩
          have hB4 : Below wr.drew.heap.size wr.drew w3 := by rw [hw]; exact below_grow _ kk os
          have hB3 : Below w.heap.size w w3 := hS9.2.2.trans (hB4.mono hS9.2.2.size)
          have hS10 : (fun W1 => W1.cell? ⟨1, j, none⟩ = some (.string bb) ∧ wr.heap.size ≤ W1.heap.size ∧ Below w.heap.size w W1) w3 := ⟨(hB4.cell (p := ⟨1, j, none⟩) (by show 1 < wr.heap.size; omega)).trans hbc, hB4.size, hB3⟩
          have hO3 : w3.ownsRow w.heap.size 9 1 z (pcsK x j).length (strs (pcsK x j)) := ownsRow_below (w := wr.drew) HO.out hB4
          clear hw hB3 hB4
          obtain ⟨d, hd⟩ : ∃ d : ByteArray, (⟨(Lib.itoa v).toArray⟩ : ByteArray) = d := ⟨_, rfl⟩
          have hdl : d.data.toList = Lib.itoa v := by rw [← hd]
          have hdz : d.size ≤ 20 := by rw [ba_size, hdl]; exact hil
          have HDL := Lib.hid hdl
          rw [hd]
          clear hd hdl hil
          go_wp2_with fail
          refine hK.out _ _ hS10 (fun hH2 => ?_)
          clear hK K hHeld
          rename _ => hHeld
          try simp only [Act.put, List.setIfInBounds_toArray, List.set_cons_zero, List.set_cons_succ]
          refine wpAnyH_take (i := 7) (oi := { dst := some 20, op := _, type := _, pos := _, after := _, guard := _ }) (v := .string (bb ++ ⟨#[94]⟩ ++ d)) rfl (by kernel_rfl) (by kernel_rfl) (by kernel_rfl) (fun _ _ _ h => h) (Or.inl ⟨by rfl, ?_⟩) (by assumption) ?_
          · (intro w hSw; (try dsimp only at hSw); go_simp)
            omega
          try simp only [Act.put, List.setIfInBounds_toArray, List.set_cons_zero, List.set_cons_succ]
          refine wpAnyH_ready (rs := [8]) (by kernel_rfl) (by simp) ?_
          refine AllReadyH.cons (o := { dst := some 21, op := _, type := _, pos := _, after := _, guard := _ }) rfl (fun K hK => ?_) AllReadyH.nil
          go_simp
          have hS11 : (fun W1 => W1.cell? ⟨1, j, none⟩ = some (.string bb) ∧ wr.heap.size ≤ W1.heap.size ∧ Below w.heap.size w W1) (w3.alloc (.cells #[.string (bb ++ ⟨#[94]⟩ ++ d)] 9)) := ⟨(World.cell?_alloc_some _ _ _ (by rw [hS10.1]; rfl)).trans hS10.1, by simp; have := hS10.2.1; omega, hS10.2.2.alloc hS10.2.2.size _⟩
          refine hK.out _ _ hS11 (fun hH2 => ?_)
          clear hK K hHeld
          rename _ => hHeld
          try simp only [Act.put, List.setIfInBounds_toArray, List.set_cons_zero, List.set_cons_succ]
          refine wpAnyH_ready (rs := [9]) (by kernel_rfl) (by simp) ?_
          refine AllReadyH.cons (o := { dst := some 22, op := _, type := _, pos := _, after := _, guard := _ }) rfl (fun K hK => ?_) AllReadyH.nil
          refine if_wanted rfl ?_
          obtain ⟨sx, hsx⟩ : ∃ sx : ByteArray, bb ++ ⟨#[94]⟩ ++ d = sx := ⟨_, rfl⟩
          have HSX := Lib.hid (show sx.data.toList = base j ++ 94 :: Lib.itoa v by rw [← hsx]; simp [HBL.out, HDL.out])
          rw [hsx] at hS11 ⊢
          have hpl := pcsK_len x j
          refine wp_append_own _ (.tmp 13) (.tmp 21) 52 rfl w.heap.size 9 i0 (.string ⟨#[]⟩) 1 16 Tryd.underlying52 hi0 hz0 hz1 hz2 rfl (by decide) _ _ _ rfl (hO3.alloc _) ⟨w3.heap.size, 0, none⟩ 1 1 [.string sx] rfl rfl (fun l u hu => by rw [ad_add, cell_of_row _ w3.heap.size l _ _ _ (heap_alloc_new w3 _)]; simpa using hu) (by simp [Value.oneCell']) (by unfold maxLen; omega) (by omega) hS11.2.2.size ?_
          intro v2 w2 ho2 hg2 _
          have hb2 := below_grown2 hS11.2.2.size (hO3.alloc _) hg2
          have hB12 : Below w.heap.size w w2 := hS11.2.2.trans hb2
          have hS12 : (fun W1 => W1.cell? ⟨1, j, none⟩ = some (.string bb) ∧ wr.heap.size ≤ W1.heap.size ∧ Below w.heap.size w W1) w2 := ⟨(hb2.cell (p := ⟨1, j, none⟩) (by show 1 < w.heap.size; omega)).trans hS11.1, by have := hb2.size; have := hS11.2.1; omega, hB12⟩
          have HO2 := Lib.hid ho2
          clear ho2 hg2 hb2 hS11 hO3
          refine hK.out _ _ hS12 (fun hH2 => ?_)
          clear hK K hHeld
          rename _ => hHeld
          try simp only [Act.put, List.setIfInBounds_toArray, List.set_cons_zero, List.set_cons_succ]
          refine wpAnyH_take (i := 10) (oi := { dst := some 3, op := _, type := _, pos := _, after := _, guard := _ }) (v := ?_) rfl (by kernel_rfl) (by kernel_rfl) (by kernel_rfl) (fun _ _ _ h => h) (Or.inl ⟨by rfl, ?_⟩) (by assumption) ?_
          rotate_left
          · (intro w hSw; (try dsimp only at hSw); (try obtain ⟨hS0, hS1, hS2⟩ := hSw); go_simp)
            first | done | with_reducible rfl
          try simp only [Act.put, List.setIfInBounds_toArray, List.set_cons_zero, List.set_cons_succ]
          refine wpAnyH_done (by kernel_rfl) ?_ _
          refine NoPanic.normal ?_
          have HB2 := Lib.hid hS12.2.2
          clear hHeld hS9 hS10 hS12 hB12
          go_wp2_with fail
          go_roundg (gk - 1)
          case measure => have := HG.out; have := HLT.out; omega
          case rel => exact ⟨j + 1, _, by have := HG.out; have := HLT.out; omega, rfl, by go_num, by have h := HO2.out; rw [HS2.out]; simpa [strs, ← HSX.out] using h, HB2.out⟩
    · have hj : j = 5 := by omega
      subst hj
      have hi : ¬ ((5 : Nat) : Int) < 5 := by omega
      have HJ := Lib.hid (join_own (pcsK x 5) [42] z wr w.heap.size HO.out (by have := pcsK_len x 5; omega) (by rw [← nameT_join]; have := nameT_len hx; omega))
      rw [← nameT_join] at HJ
      clear hlt
      go_wp2_with fail
      refine HJ.out.mono ?_
      rintro r w2 ⟨rfl, hB2⟩
      have HB2 := Lib.hid (HBW.out.trans (hB2.mono HBW.out.size))
      clear hB2
      go_wp2_with fail
      go_ret
      exact ⟨rfl, HB2.out⟩
set_option maxRecDepth 100000 in
set_option maxHeartbeats 1000000 in
theorem pprint_any (x : Qt) (w : World) (tb : Tab w) (hx : x.ok) :
    Calls Tryd.prog 24 #[.agg #[.int .i64 x.n, .int .i64 x.m.e, .int .i64 x.m.d, .int .i64 x.m.t, .int .i64 x.m.a, .int .i64 x.m.h]] w fun r w' => r = .returned (.string ⟨(printT x).toArray⟩) ∧ Below w.heap.size w w' := by
  have HN := Lib.hid (fun W tb => pname_any x.m W tb hx.2)
  have HD := Lib.hid (fun W h => Tryd.strconv_Itoa x.n hx.1.1 hx.1.2 W h)
  have hnl := nameT_len hx.2
  have hdl := itoa_len hx.1
  obtain ⟨b, hb⟩ : ∃ b, (⟨(nameT x.m).toArray⟩ : ByteArray) = b := ⟨_, rfl⟩
  obtain ⟨d, hd⟩ : ∃ d, (⟨(Lib.itoa x.n).toArray⟩ : ByteArray) = d := ⟨_, rfl⟩
  have hbl : b.data.toList = nameT x.m := by rw [← hb]
  have hdd : d.data.toList = Lib.itoa x.n := by rw [← hd]
  have hbz : b.size ≤ 125 := by rw [ba_size, hbl]; exact hnl
  have hdz : d.size ≤ 20 := by rw [ba_size, hdd]; exact hdl
  rw [hb] at HN
  rw [hd] at HD
  have HBL := Lib.hid (And.intro hbl hdd)
  by_cases hs : nameT x.m = []
  · have hb0 : (!b.toList.isEmpty) = false := by rw [ByteArray.toList_eq, hbl, hs]; rfl
    have HP := Lib.hid (show d = ⟨(printT x).toArray⟩ from ba_ext (by rw [hdd, printT, if_pos hs]))
    clear hs hb hd hbl hdd hnl hdl hx
    go_enter Tryd.func24, Tryd.ntmps24
    go_wp2_with fail
    refine (HD.out _ (tb.below (bel1 w _)).pow).mono ?_
    rintro r w1 ⟨rfl, kk, os, hw⟩
    have hB1 := below_grow (w.alloc (.cells #[.int .i64 x.n, .int .i64 x.m.e, .int .i64 x.m.d, .int .i64 x.m.t, .int .i64 x.m.a, .int .i64 x.m.h] 32)) kk os
    rw [← hw] at hB1
    obtain ⟨hc, hf⟩ := bcell hB1
    have HB1 := Lib.hid ((bel1 w _).trans (hB1.mono (by simp)))
    have HT := Lib.hid (tb.below HB1.out)
    clear hw hB1
    go_wp2_with fail
    refine (HN.out _ HT.out).mono ?_
    rintro r w2 ⟨rfl, hB⟩
    have HB2 := Lib.hid (HB1.out.trans (hB.mono HB1.out.size))
    clear hB
    go_wp2_with fail
    go_ret
    exact ⟨by rw [← HP.out]; rfl, HB2.out⟩
  · have hb0 : (!b.toList.isEmpty) = true := by rw [ByteArray.toList_eq, hbl]; simpa using hs
    have HP := Lib.hid (show d ++ (⟨#[32]⟩ ++ b) = ⟨(printT x).toArray⟩ from ba_ext (by rw [printT, if_neg hs]; simp [hbl, hdd]))
    clear hs hb hd hbl hdd hnl hdl hx
    go_enter Tryd.func24, Tryd.ntmps24
    go_wp2_with fail
    refine (HD.out _ (tb.below (bel1 w _)).pow).mono ?_
    rintro r w1 ⟨rfl, kk, os, hw⟩
    have hB1 := below_grow (w.alloc (.cells #[.int .i64 x.n, .int .i64 x.m.e, .int .i64 x.m.d, .int .i64 x.m.t, .int .i64 x.m.a, .int .i64 x.m.h] 32)) kk os
    rw [← hw] at hB1
    obtain ⟨hc, hf⟩ := bcell hB1
    have HB1 := Lib.hid ((bel1 w _).trans (hB1.mono (by simp)))
    have HT := Lib.hid (tb.below HB1.out)
    clear hw hB1
    go_wp2_with fail
    refine (HN.out _ HT.out).mono ?_
    rintro r w2 ⟨rfl, hB⟩
    have HB2 := Lib.hid (HB1.out.trans (hB.mono HB1.out.size))
    clear hB
    go_wp2_with fail
    go_ret
    exact ⟨by rw [← HP.out]; rfl, HB2.out⟩
end U
end Go.Proofs.YthcehhonahgfmaaDoor
