/-
  Contracts of the specification's Name and Print.
-/
import Derived.Test.YthcehhonahgfmaaDoorUText
import Derived.Test.YthcehhonahgfmaaDoorUStr
import Derived.Test.YthcehhonahgfmaaDoorURef2
import Derived.Test.YthcehhonahgfmaaDoorUOpen
namespace Go.Proofs.YthcehhonahgfmaaDoor
open Go.RowKit
namespace U
open H
set_option linter.unusedVariables false

theorem addF_01 {s b : List UInt8} {e : Int} (h0 : ¬ e = 0) (hs : s = []) (h1 : e = 1) : addF s b e = s ++ b := by
  unfold addF
  rw [if_neg h0, if_pos hs, if_pos h1, hs]
theorem addF_00 {s b : List UInt8} {e : Int} (h0 : ¬ e = 0) (hs : s = []) (h1 : ¬ e = 1) : addF s b e = s ++ b ++ [94] ++ Lib.itoa e := by
  unfold addF
  rw [if_neg h0, if_pos hs, if_neg h1, hs]
  simp
theorem addF_11 {s b : List UInt8} {e : Int} (h0 : ¬ e = 0) (hs : ¬ s = []) (h1 : e = 1) : addF s b e = s ++ [42] ++ b := by
  unfold addF
  rw [if_neg h0, if_neg hs, if_pos h1]
theorem addF_10 {s b : List UInt8} {e : Int} (h0 : ¬ e = 0) (hs : ¬ s = []) (h1 : ¬ e = 1) : addF s b e = s ++ [42] ++ b ++ [94] ++ Lib.itoa e := by
  unfold addF
  rw [if_neg h0, if_neg hs, if_neg h1]
  simp
theorem itoa_len {n : Int} (h : I64 n) : (Lib.itoa n).length ≤ 20 := by
  unfold I64 at h
  unfold Lib.itoa
  by_cases hn : n < 0
  · rw [if_pos hn, List.length_cons]
    have := dec_len (u := n.natAbs) (by omega)
    omega
  · rw [if_neg hn]
    have := dec_len (u := n.toNat) (by omega)
    omega
theorem list_ok {x : Dm} (h : x.ok) (j : Nat) : I64 (x.list[j]?.getD 0) := by
  obtain ⟨h0, h1, h2, h3, h4⟩ := h
  match j with
  | 0 => exact h0
  | 1 => exact h1
  | 2 => exact h2
  | 3 => exact h3
  | 4 => exact h4
  | j + 5 => show I64 0; unfold I64; omega
theorem nmK_len {x : Dm} (h : x.ok) : ∀ j, (nmK x j).length ≤ 25 * j
  | 0 => Nat.le_refl _
  | j + 1 => by
    have h1 := nmK_len h j
    have h2 := addF_len (s := nmK x j) (base_len j) (itoa_len (list_ok h j))
    show (addF _ _ _).length ≤ _
    omega

set_option maxRecDepth 100000 in
set_option maxHeartbeats 1000000 in
theorem rname_any (x : Dm) (w : World) (hx : x.ok) :
    Calls Tryd.prog 23 #[.agg #[.int .i64 x.e, .int .i64 x.d, .int .i64 x.t, .int .i64 x.a, .int .i64 x.h]] w fun r w' => r = .returned (.string ⟨(nameT x).toArray⟩) ∧ Below w.heap.size w w' := by
  have HE := Lib.hid (fun W => rexp_any x W)
  go_enter Tryd.func23, Tryd.ntmps23
  go_wp2_with fail
  refine (HE.out _).mono ?_
  rintro r w1 ⟨rfl, hr, hB⟩
  have HR := Lib.hid hr
  have HB := Lib.hid ((bel1 w _).trans (hB.mono (by simp)))
  have hsz := hB.size
  try simp at hsz
  clear hr hB
  go_wp2_with fail
  have HBS := Lib.hid (show ∀ j, j < 5 → (w1.alloc (.cells #[.string ⟨#[74]⟩, .string ⟨#[66]⟩, .string ⟨#[115]⟩, .string ⟨#[100, 101, 103]⟩, .string ⟨#[75]⟩] 9)).cell? ⟨w1.heap.size, j, none⟩ = some (.string ⟨(base j).toArray⟩) from fun j hj => by
    rw [cell_of_row _ w1.heap.size j _ _ _ (heap_alloc_new w1 _)]
    match j, hj with
    | 0, _ => rfl
    | 1, _ => rfl
    | 2, _ => rfl
    | 3, _ => rfl
    | 4, _ => rfl)
  have HR2 := Lib.hid (HR.out.below ((Below.refl w1.heap.size w1).alloc (Nat.le_refl _) (.cells #[.string ⟨#[74]⟩, .string ⟨#[66]⟩, .string ⟨#[115]⟩, .string ⟨#[100, 101, 103]⟩, .string ⟨#[75]⟩] 9)))
  have HB2 := Lib.hid (HB.out.alloc HB.out.size (.cells #[.string ⟨#[74]⟩, .string ⟨#[66]⟩, .string ⟨#[115]⟩, .string ⟨#[100, 101, 103]⟩, .string ⟨#[75]⟩] 9))
  generalize w1.alloc (.cells #[.string ⟨#[74]⟩, .string ⟨#[66]⟩, .string ⟨#[115]⟩, .string ⟨#[100, 101, 103]⟩, .string ⟨#[75]⟩] 9) = w2 at *
  go_loopg [5, 6] 5 (fun g y i wr => ∃ (j : Nat) (b : ByteArray), j + g = 5 ∧ y = .string b ∧ b.data.toList = nmK x j ∧ i = .int .i64 j ∧ wr = w2)
  case atStart => exact ⟨0, _, rfl, rfl, rfl, rfl, rfl⟩
  case round =>
    obtain ⟨j, b, hg, rfl, hb, rfl, rfl⟩ := hrel
    have HG := Lib.hid hg
    have hj5 : j ≤ 5 := by omega
    clear hg
    by_cases hlt : j < 5
    · have hcell : wr.cell? ⟨w.heap.size + 1 + 1, j, none⟩ = some (.int .i64 (x.list[j]?.getD 0)) := by
        obtain ⟨ad, e, _, hc⟩ := HR2.out j (by show j < 5; exact hlt)
        cases e
        have ea : (⟨(w.alloc (.cells #[.int .i64 x.e, .int .i64 x.d, .int .i64 x.t, .int .i64 x.a, .int .i64 x.h] 23)).heap.size + 1, 0, none⟩ : Addr).add j = ⟨w.heap.size + 1 + 1, j, none⟩ := by unfold Addr.add; split <;> simp_all
        rw [← ea]
        exact hc
      have hbase := HBS.out j hlt
      have hi : (j : Int) < 5 := by omega
      have hi0 : (0 : Int) ≤ (j : Int) := by omega
      have hv := list_ok hx j
      obtain ⟨v, hve⟩ : ∃ v, x.list[j]?.getD 0 = v := ⟨_, rfl⟩
      rw [hve] at hcell hv
      have hstep : nmK x (j + 1) = addF (nmK x j) (base j) v := by rw [← hve]; rfl
      have hlen := nmK_len hx j
      rw [← hb] at hlen hstep
      have hbz : b.size ≤ 125 := by rw [ba_size]; omega
      have hbl := base_len j
      have HST := Lib.hid hstep
      obtain ⟨c, hc⟩ : ∃ c, (⟨(base j).toArray⟩ : ByteArray) = c := ⟨_, rfl⟩
      rw [hc] at hbase
      have hcl : c.data.toList = base j := by rw [← hc]
      have hcz : c.size ≤ 3 := by rw [ba_size, hcl]; exact hbl
      have HC := Lib.hid hcl
      have HLT := Lib.hid hlt
      clear hve hstep hlen hbl hc hcl hlt hb
      by_cases h0 : v = 0
      · have h0b : (v == 0) = true := by simp [h0]
        have HX := Lib.hid (show b.data.toList = nmK x (j + 1) by rw [HST.out, addF, if_pos h0])
        clear h0
        go_wp2_with fail
        go_roundg (gk - 1)
        case measure => have := HG.out; have := HLT.out; omega
        case rel => exact ⟨j + 1, b, by have := HG.out; omega, rfl, HX.out, by go_num, rfl⟩
      · have h0b : (v == 0) = false := by simp [h0]
        have HD := Lib.hid (fun W => rdec_any v W hv)
        have hvz := itoa_len hv
        by_cases hs : b.data.toList = []
        · by_cases h1 : v = 1
          · skip
            have hb0 : (!b.toList.isEmpty) = false := by rw [ByteArray.toList_eq]; simpa using hs
            have h1b : (v != 1) = false := by simp [h1]
            have HF := Lib.hid (show nmK x (j + 1) = _ from HST.out.trans (addF_01 h0 hs h1))
            clear hs h1 h0
            go_wp2_with fail
            go_roundg (gk - 1)
            case measure => have := HG.out; have := HLT.out; omega
            case rel => exact ⟨j + 1, _, by have := HG.out; omega, rfl, by rw [HF.out]; simp [HC.out], by go_num, rfl⟩
          · skip
            have hb0 : (!b.toList.isEmpty) = false := by rw [ByteArray.toList_eq]; simpa using hs
            have h1b : (v != 1) = true := by simp [h1]
            have HF := Lib.hid (show nmK x (j + 1) = _ from HST.out.trans (addF_00 h0 hs h1))
            clear hs h1 h0
            go_wp2_with fail
            refine (HD.out _).mono ?_
            rintro r w3 ⟨rfl, rfl⟩
            obtain ⟨d, hd⟩ : ∃ d, (⟨(Lib.itoa v).toArray⟩ : ByteArray) = d := ⟨_, rfl⟩
            have hdl : d.data.toList = Lib.itoa v := by rw [← hd]
            rw [hd]
            have hdz : d.size ≤ 20 := by rw [ba_size, hdl]; exact hvz
            have HDL := Lib.hid hdl
            clear hd hdl
            go_wp2_with fail
            go_roundg (gk - 1)
            case measure => have := HG.out; have := HLT.out; omega
            case rel => exact ⟨j + 1, _, by have := HG.out; omega, rfl, by rw [HF.out]; simp [HC.out, HDL.out], by go_num, rfl⟩
        · by_cases h1 : v = 1
          · skip
            have hb0 : (!b.toList.isEmpty) = true := by rw [ByteArray.toList_eq]; simpa using hs
            have h1b : (v != 1) = false := by simp [h1]
            have HF := Lib.hid (show nmK x (j + 1) = _ from HST.out.trans (addF_11 h0 hs h1))
            clear hs h1 h0
            go_wp2_with fail
            go_roundg (gk - 1)
            case measure => have := HG.out; have := HLT.out; omega
            case rel => exact ⟨j + 1, _, by have := HG.out; omega, rfl, by rw [HF.out]; simp [HC.out], by go_num, rfl⟩
          · skip
            have hb0 : (!b.toList.isEmpty) = true := by rw [ByteArray.toList_eq]; simpa using hs
            have h1b : (v != 1) = true := by simp [h1]
            have HF := Lib.hid (show nmK x (j + 1) = _ from HST.out.trans (addF_10 h0 hs h1))
            clear hs h1 h0
            go_wp2_with fail
            refine (HD.out _).mono ?_
            rintro r w3 ⟨rfl, rfl⟩
            obtain ⟨d, hd⟩ : ∃ d, (⟨(Lib.itoa v).toArray⟩ : ByteArray) = d := ⟨_, rfl⟩
            have hdl : d.data.toList = Lib.itoa v := by rw [← hd]
            rw [hd]
            have hdz : d.size ≤ 20 := by rw [ba_size, hdl]; exact hvz
            have HDL := Lib.hid hdl
            clear hd hdl
            go_wp2_with fail
            go_roundg (gk - 1)
            case measure => have := HG.out; have := HLT.out; omega
            case rel => exact ⟨j + 1, _, by have := HG.out; omega, rfl, by rw [HF.out]; simp [HC.out, HDL.out], by go_num, rfl⟩
    · have hj : j = 5 := by omega
      have HX := Lib.hid (show b = ⟨(nameT x).toArray⟩ from ba_ext (by rw [hb, hj]; rfl))
      have hi : ¬ (j : Int) < 5 := by omega
      clear hj hb
      go_wp2_with fail
      go_ret
      exact ⟨by rw [← HX.out]; rfl, HB2.out⟩
theorem nameT_len {x : Dm} (h : x.ok) : (nameT x).length ≤ 125 := nmK_len h 5

set_option maxRecDepth 100000 in
set_option maxHeartbeats 1000000 in
theorem rprint_any (x : Qt) (w : World) (hx : x.ok) :
    Calls Tryd.prog 25 #[.agg #[.int .i64 x.n, .int .i64 x.m.e, .int .i64 x.m.d, .int .i64 x.m.t, .int .i64 x.m.a, .int .i64 x.m.h]] w fun r w' => r = .returned (.string ⟨(printT x).toArray⟩) ∧ Below w.heap.size w w' := by
  have HN := Lib.hid (fun W => rname_any x.m W hx.2)
  have HD := Lib.hid (fun W => rdec_any x.n W hx.1)
  have hnl := nameT_len hx.2
  have hdl := itoa_len hx.1
  obtain ⟨b, hb⟩ : ∃ b, (⟨(nameT x.m).toArray⟩ : ByteArray) = b := ⟨_, rfl⟩
  obtain ⟨d, hd⟩ : ∃ d, (⟨(Lib.itoa x.n).toArray⟩ : ByteArray) = d := ⟨_, rfl⟩
  have hbl : b.data.toList = nameT x.m := by rw [← hb]
  have hdd : d.data.toList = Lib.itoa x.n := by rw [← hd]
  have hbz : b.size ≤ 125 := by rw [ba_size, hbl]; exact hnl
  have hdz : d.size ≤ 20 := by rw [ba_size, hdd]; exact hdl
  rw [hb] at HN
  rw [hd] at HD
  have HBL := Lib.hid (And.intro hbl hdd)
  by_cases hs : nameT x.m = []
  · have hb0 : (!b.toList.isEmpty) = false := by rw [ByteArray.toList_eq, hbl, hs]; rfl
    have HP := Lib.hid (show d = ⟨(printT x).toArray⟩ from ba_ext (by rw [hdd, printT, if_pos hs]))
    clear hs hb hd hbl hdd hnl hdl hx
    go_enter Tryd.func25, Tryd.ntmps25
    go_wp2_with fail
    refine (HD.out _).mono ?_
    rintro r w1 ⟨rfl, rfl⟩
    go_wp2_with fail
    refine (HN.out _).mono ?_
    rintro r w2 ⟨rfl, hB⟩
    have HB := Lib.hid ((bel1 w _).trans (hB.mono (by simp)))
    clear hB
    go_wp2_with fail
    go_ret
    exact ⟨by rw [← HP.out]; rfl, HB.out⟩
  · have hb0 : (!b.toList.isEmpty) = true := by rw [ByteArray.toList_eq, hbl]; simpa using hs
    have HP := Lib.hid (show d ++ ⟨#[32]⟩ ++ b = ⟨(printT x).toArray⟩ from ba_ext (by rw [printT, if_neg hs]; simp [hbl, hdd]))
    clear hs hb hd hbl hdd hnl hdl hx
    go_enter Tryd.func25, Tryd.ntmps25
    go_wp2_with fail
    refine (HD.out _).mono ?_
    rintro r w1 ⟨rfl, rfl⟩
    go_wp2_with fail
    refine (HN.out _).mono ?_
    rintro r w2 ⟨rfl, hB⟩
    obtain ⟨hc, hf⟩ := bcell hB
    have HB := Lib.hid ((bel1 w _).trans (hB.mono (by simp)))
    clear hB
    go_wp2_with fail
    refine (HN.out _).mono ?_
    rintro r w3 ⟨rfl, hB⟩
    have HB3 := Lib.hid (HB.out.trans (hB.mono HB.out.size))
    clear hB
    go_wp2_with fail
    go_ret
    exact ⟨by rw [← HP.out]; rfl, HB3.out⟩
end U
end Go.Proofs.YthcehhonahgfmaaDoor
