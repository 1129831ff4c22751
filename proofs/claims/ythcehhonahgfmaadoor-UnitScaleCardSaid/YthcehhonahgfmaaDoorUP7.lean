/-
  Contracts of the program's isNumber, isName, value, clamped.
-/
import Derived.Test.YthcehhonahgfmaaDoorURM
import Derived.Test.YthcehhonahgfmaaDoorUTab
import Derived.Test.YthcehhonahgfmaaDoorUPM
import Derived.Test.YthcehhonahgfmaaDoorApp2
import Derived.Test.YthcehhonahgfmaaDoorURef
namespace Go.Proofs.YthcehhonahgfmaaDoor
open Go.RowKit
namespace U
open H
set_option linter.unusedVariables false
set_option maxRecDepth 100000

set_option maxHeartbeats 1000000 in
theorem pbetween_any (b l h : Int) (w : World) :
    Calls Tryd.prog 78 #[.int .u8 b, .int .u8 l, .int .u8 h] w fun r w' => r = .returned (.bool (decide (l ≤ b) && decide (b ≤ h))) ∧ w' = w := by
  by_cases h1 : l ≤ b
  · go_enter Tryd.func78, Tryd.ntmps78
    go_wp2_with fail
    go_ret
    exact ⟨by simp [h1], rfl⟩
  · go_enter Tryd.func78, Tryd.ntmps78
    go_wp2_with fail
    go_ret
    exact ⟨by rw [decide_eq_false (show ¬ l ≤ b by omega)]; rfl, rfl⟩
set_option maxHeartbeats 1000000 in
theorem pclamped_any (n : Int) (w : World) :
    Calls Tryd.prog 55 #[.int .i64 n] w fun r w' => r = .returned (.int .i64 (min (max n (-2147483648)) 2147483648)) ∧ w' = w := by
  go_enter Tryd.func55, Tryd.ntmps55
  go_wp2_with fail
  go_ret
  exact ⟨rfl, rfl⟩
theorem bytesWorld_below (w : World) (t : TypeId) (b : ByteArray) : Below w.heap.size w (Lib.bytesWorld w t b) := by
  unfold Lib.bytesWorld
  exact Lib.below_freeze ((Below.refl w.heap.size w).drew.alloc (Nat.le_refl _) _) (Nat.le_refl _) _
set_option maxHeartbeats 1000000 in
theorem pvalue_any (s : ByteArray) (w : World) (tb : Tab w) (hs : s.size ≤ 100) :
    Calls Tryd.prog 53 #[.string s] w fun r w' => r = .returned (.int .i64 (valT s.data.toList)) ∧ Below w.heap.size w w' := by
  cases ha : Lib.atoiAll s.data.toList with
  | ok v =>
    have HA := Lib.hid (Tryd.strconv_Atoi_ok s (by omega) v ha w)
    have HV := Lib.hid (valT_ok ha)
    clear ha
    go_enter Tryd.func53, Tryd.ntmps53
    go_wp2_with fail
    refine HA.out.mono ?_
    rintro r w1 ⟨rfl, hw⟩
    have HB := Lib.hid (show Below w.heap.size w w1 by rcases hw with rfl | ⟨t, rfl⟩; exact Below.refl _ _; exact bytesWorld_below _ _ _)
    clear hw
    go_wp2_with fail
    refine (pclamped_any v _).mono ?_
    rintro r w2 ⟨rfl, rfl⟩
    go_wp2_with fail
    go_ret
    exact ⟨by rw [HV.out]; rfl, HB.out⟩
  | range =>
    obtain ⟨te, pe, hc⟩ := tb.rang
    have HA := Lib.hid (Tryd.strconv_Atoi_range s (by omega) ha _ w hc (Or.inr ⟨_, _, rfl⟩))
    have HV := Lib.hid (valT_no (fun v h => by rw [ha] at h; cases h))
    clear ha hc
    go_enter Tryd.func53, Tryd.ntmps53
    go_wp2_with fail
    refine HA.out.mono ?_
    rintro r w1 ⟨N, rfl, _, _, hB⟩
    have HB := Lib.hid hB
    clear hB
    go_wp2_with fail
    go_ret
    exact ⟨by rw [HV.out]; rfl, HB.out⟩
  | _ =>
    obtain ⟨te, pe, hc⟩ := tb.synt
    have HA := Lib.hid (Tryd.strconv_Atoi_syntax s (by omega) ha _ w hc (Or.inr ⟨_, _, rfl⟩))
    have HV := Lib.hid (valT_no (fun v h => by rw [ha] at h; cases h))
    clear ha hc
    go_enter Tryd.func53, Tryd.ntmps53
    go_wp2_with fail
    refine HA.out.mono ?_
    rintro r w1 ⟨N, rfl, _, _, hB⟩
    have HB := Lib.hid hB
    clear hB
    go_wp2_with fail
    go_ret
    exact ⟨by rw [HV.out]; rfl, HB.out⟩
set_option maxHeartbeats 1000000 in
theorem pisname_any (s : ByteArray) (w : World) (hs : s.size ≤ 100) :
    Calls Tryd.prog 68 #[.string s] w fun r w' => r = .returned (.bool (lets s.data.toList)) ∧ w' = w := by
  go_enter Tryd.func68, Tryd.ntmps68
  go_wp2_with fail
  go_loopg [6] s.size (fun g i wr => ∃ j : Nat, j + g = s.size ∧ i = .int .i64 j ∧ (s.data.toList.take j).all isLet = true ∧ wr = w)
  case atStart => exact ⟨0, by omega, rfl, by simp, rfl⟩
  case round =>
    obtain ⟨j, hg, rfl, hall, rfl⟩ := hrel
    have HG := Lib.hid hg
    have HALL := Lib.hid hall
    have hj : j ≤ s.size := by omega
    clear hg hall
    by_cases hlt : j < s.size
    · have hi : (j : Int) < (s.size : Int) := by omega
      have hi0 : (0 : Int) ≤ (j : Int) := by omega
      have hat := byte_at hlt
      obtain ⟨c, hc⟩ : ∃ c, s[j] = c := ⟨_, rfl⟩
      rw [hc] at hat
      have HLT := Lib.hid hlt
      have HC := Lib.hid hc
      have HAT := Lib.hid hat
      clear hat hc
      by_cases h1 : 97 ≤ c.toNat ∧ c.toNat ≤ 122
      · have H1 := Lib.hid (show (decide ((97 : Int) ≤ (c.toNat : Int)) && decide ((c.toNat : Int) ≤ 122)) = true by simp; omega)
        have HL := Lib.hid (show isLet c = true by unfold isLet; simp [h1])
        clear h1
        go_wp2_with fail
        rw [HC.out]
        refine (pbetween_any _ _ _ _).mono ?_
        rintro r w2 ⟨rfl, rfl⟩
        rw [H1.out]
        go_wp2_with fail
        go_roundg (gk - 1)
        case measure => have := HG.out; have := HLT.out; omega
        case rel => exact ⟨j + 1, by have := HG.out; have := HLT.out; omega, by go_num, by rw [take_all _ HAT.out, HALL.out, HL.out]; rfl, rfl⟩
      · have H1 := Lib.hid (show (decide ((97 : Int) ≤ (c.toNat : Int)) && decide ((c.toNat : Int) ≤ 122)) = false by simp; omega)
        by_cases h2 : 65 ≤ c.toNat ∧ c.toNat ≤ 90
        · have H2 := Lib.hid (show (decide ((65 : Int) ≤ (c.toNat : Int)) && decide ((c.toNat : Int) ≤ 90)) = true by simp; omega)
          have HL := Lib.hid (show isLet c = true by unfold isLet; simp [h2])
          clear h1 h2
          go_wp2_with fail
          rw [HC.out]
          refine (pbetween_any _ _ _ _).mono ?_
          rintro r w2 ⟨rfl, rfl⟩
          rw [H1.out]
          go_wp2_with fail
          rw [HC.out]
          refine (pbetween_any _ _ _ _).mono ?_
          rintro r w2 ⟨rfl, rfl⟩
          rw [H2.out]
          go_wp2_with fail
          go_roundg (gk - 1)
          case measure => have := HG.out; have := HLT.out; omega
          case rel => exact ⟨j + 1, by have := HG.out; have := HLT.out; omega, by go_num, by rw [take_all _ HAT.out, HALL.out, HL.out]; rfl, rfl⟩
        · have H2 := Lib.hid (show (decide ((65 : Int) ≤ (c.toNat : Int)) && decide ((c.toNat : Int) ≤ 90)) = false by simp; omega)
          have HL := Lib.hid (show isLet c = false by unfold isLet; simp; omega)
          clear h1 h2
          go_wp2_with fail
          rw [HC.out]
          refine (pbetween_any _ _ _ _).mono ?_
          rintro r w2 ⟨rfl, rfl⟩
          rw [H1.out]
          go_wp2_with fail
          rw [HC.out]
          refine (pbetween_any _ _ _ _).mono ?_
          rintro r w2 ⟨rfl, rfl⟩
          rw [H2.out]
          go_wp2_with fail
          go_ret
          exact ⟨by unfold lets; rw [all_false HAT.out HL.out]; rfl, rfl⟩
    · have hi : ¬ (j : Int) < (s.size : Int) := by omega
      have HL := Lib.hid (show lets s.data.toList = !s.toList.isEmpty by
        have h1 : s.data.toList.take j = s.data.toList := List.take_of_length_le (by show s.size ≤ j; omega)
        have h2 := HALL.out
        rw [h1] at h2
        unfold lets
        rw [h2, ByteArray.toList_eq]
        rfl)
      go_wp2_with fail
      go_ret
      exact ⟨by rw [HL.out]; rfl, rfl⟩
theorem trim45 (l : List UInt8) : Lib.trimPrefix l [45] = if l.head? = some 45 then l.tail else l := by
  unfold Lib.trimPrefix Lib.hasPrefix
  cases l with
  | nil => simp [List.isPrefixOf]
  | cons c r =>
    by_cases h : c = 45
    · subst h; simp [List.isPrefixOf]
    · simp [List.isPrefixOf, h, Ne.symm h]
theorem num_a {l r : List UInt8} (hr : Lib.trimPrefix l [45] = r) (h : r = [] ∨ r.head? = some 48) : (numT l).2 = (l == [48]) := by
  rw [trim45] at hr
  unfold numT
  simp only [hr]
  by_cases h1 : r = [] ∨ (r.head? = some 48 ∧ 1 < l.length)
  · rw [if_pos h1]
    show false = _
    symm
    rw [beq_eq_false_iff_ne]
    intro e
    subst e
    simp at hr h1
    subst hr
    simp at h1
  · rw [if_neg h1]
    have h2 : r.head? = some 48 ∧ ¬ 1 < l.length := by
      rcases h with h | h
      · exact absurd (Or.inl h) h1
      · exact ⟨h, fun e => h1 (Or.inr ⟨h, e⟩)⟩
    have hl : l = [48] := by
      match l, h2.2 with
      | [], _ => simp at hr; subst hr; simp at h2
      | _ :: _ :: _, hh => simp at hh
      | [c], _ =>
        by_cases hc : c = 45
        · subst hc; simp at hr; subst hr; simp at h2
        · simp [hc] at hr; subst hr; simpa using h2.1
    subst hl
    simp at hr
    subst hr
    decide
theorem num_b {l r : List UInt8} (hr : Lib.trimPrefix l [45] = r) (h0 : r ≠ []) (h1 : r.head? ≠ some 48) : (numT l).2 = r.all isDig := by
  rw [trim45] at hr
  unfold numT
  simp only [hr]
  rw [if_neg (by rintro (h | h); exact h0 h; exact h1 h.1)]
  cases r.all isDig <;> rfl
set_option maxHeartbeats 1000000 in
theorem pisnum_any (s : ByteArray) (w : World) (hs : s.size ≤ 100) :
    Calls Tryd.prog 66 #[.string s] w fun r w' => r = .returned (.bool (numT s.data.toList).2) ∧ w' = w := by
  have HT := Lib.hid (fun W => Tryd.strings_TrimPrefix s ⟨#[45]⟩ W)
  have hle := Lib.trimPrefix_le s.data.toList [45]
  obtain ⟨d, hd⟩ : ∃ d : ByteArray, (⟨(Lib.trimPrefix s.data.toList [45]).toArray⟩ : ByteArray) = d := ⟨_, rfl⟩
  have hdl : Lib.trimPrefix s.data.toList [45] = d.data.toList := by rw [← hd]
  have hds : d.size ≤ 100 := by
    have h1 : d.size = d.data.toList.length := rfl
    have h2 : s.size = s.data.toList.length := rfl
    rw [hdl] at hle
    omega
  change Hid (∀ W, Calls Tryd.prog _ _ W fun e w' => e = Ending.returned (Value.string (⟨(Lib.trimPrefix s.data.toList [45]).toArray⟩ : ByteArray)) ∧ w' = W) at HT
  rw [hd] at HT
  have HD := Lib.hid hdl
  clear hd hdl hle
  by_cases he : d.data.toList = []
  · have hE : d.toList.isEmpty = true := by rw [ByteArray.toList_eq, he]; rfl
    have HR := Lib.hid (num_a HD.out (Or.inl he))
    clear he
    go_enter Tryd.func66, Tryd.ntmps66
    go_wp2_with fail
    refine (HT.out _).mono ?_
    rintro r w1 ⟨rfl, rfl⟩
    go_wp2_with fail
    go_ret
    exact ⟨by rw [HR.out, ← ByteArray.toList_eq]; rfl, rfl⟩
  · have hE : d.toList.isEmpty = false := by rw [ByteArray.toList_eq]; simpa using he
    have h0 : 0 < d.size := by
      have : d.size = d.data.toList.length := rfl
      have := List.length_pos_iff.2 he
      omega
    have hat := byte_at h0
    obtain ⟨c, hc⟩ : ∃ c, d[0] = c := ⟨_, rfl⟩
    rw [hc] at hat
    have HC := Lib.hid hc
    have HAT := Lib.hid hat
    have HNE := Lib.hid he
    clear he hat hc
    by_cases h48 : c.toNat = 48
    · have hx : (((d[0]'h0).toNat : Int) == 48) = true := by rw [HC.out]; simp; omega
      have HR := Lib.hid (num_a HD.out (Or.inr (by rw [List.head?_eq_getElem?, HAT.out]; congr 1; exact UInt8.toNat_inj.1 h48)))
      clear h48
      go_enter Tryd.func66, Tryd.ntmps66
      go_wp2_with fail
      refine (HT.out _).mono ?_
      rintro r w1 ⟨rfl, rfl⟩
      go_wp2_with fail
      go_ret
      exact ⟨by rw [HR.out, ← ByteArray.toList_eq]; rfl, rfl⟩
    · have hx : (((d[0]'h0).toNat : Int) == 48) = false := by rw [HC.out]; simp; omega
      have HR := Lib.hid (num_b HD.out HNE.out (by rw [List.head?_eq_getElem?, HAT.out]; intro e; injection e with e; subst e; exact h48 rfl))
      clear h48
      go_enter Tryd.func66, Tryd.ntmps66
      go_wp2_with fail
      refine (HT.out _).mono ?_
      rintro r w1 ⟨rfl, rfl⟩
      go_wp2_with fail
      go_loopg [18] d.size (fun g i wr => ∃ j : Nat, j + g = d.size ∧ i = .int .i64 j ∧ (d.data.toList.take j).all isDig = true ∧ wr = w1)
      case atStart => exact ⟨0, by omega, rfl, by simp, rfl⟩
      case round =>
        obtain ⟨j, hg, rfl, hall, rfl⟩ := hrel
        have HG := Lib.hid hg
        have HALL := Lib.hid hall
        have hj : j ≤ d.size := by omega
        clear hg hall
        by_cases hlt : j < d.size
        · have hi : (j : Int) < (d.size : Int) := by omega
          have hi0 : (0 : Int) ≤ (j : Int) := by omega
          have hat := byte_at hlt
          obtain ⟨c2, hc⟩ : ∃ c2, d[j] = c2 := ⟨_, rfl⟩
          rw [hc] at hat
          have HLT := Lib.hid hlt
          have HC := Lib.hid hc
          have HAT := Lib.hid hat
          clear hat hc
          by_cases h1 : 48 ≤ c2.toNat ∧ c2.toNat ≤ 57
          · have H1 := Lib.hid (show (decide ((48 : Int) ≤ (c2.toNat : Int)) && decide ((c2.toNat : Int) ≤ 57)) = true by simp; omega)
            have HL := Lib.hid (show isDig c2 = true by unfold isDig; simp [h1])
            clear h1
            go_wp2_with fail
            rw [HC.out]
            refine (pbetween_any _ _ _ _).mono ?_
            rintro r w2 ⟨rfl, rfl⟩
            rw [H1.out]
            go_wp2_with fail
            go_roundg (gk - 1)
            case measure => have := HG.out; have := HLT.out; omega
            case rel => exact ⟨j + 1, by have := HG.out; have := HLT.out; omega, by go_num, by rw [take_all _ HAT.out, HALL.out, HL.out]; rfl, rfl⟩
          · have H1 := Lib.hid (show (decide ((48 : Int) ≤ (c2.toNat : Int)) && decide ((c2.toNat : Int) ≤ 57)) = false by simp; omega)
            have HL := Lib.hid (show isDig c2 = false by unfold isDig; simp; omega)
            clear h1
            go_wp2_with fail
            rw [HC.out]
            refine (pbetween_any _ _ _ _).mono ?_
            rintro r w2 ⟨rfl, rfl⟩
            rw [H1.out]
            go_wp2_with fail
            go_ret
            exact ⟨by rw [HR.out, all_false HAT.out HL.out]; rfl, rfl⟩
        · have hi : ¬ (j : Int) < (d.size : Int) := by omega
          have HL := Lib.hid (show d.data.toList.all isDig = true by
            have h1 : d.data.toList.take j = d.data.toList := List.take_of_length_le (by show d.size ≤ j; omega)
            have h2 := HALL.out
            rw [h1] at h2
            exact h2)
          go_wp2_with fail
          go_ret
          exact ⟨by rw [HR.out, HL.out]; rfl, rfl⟩
end U
end Go.Proofs.YthcehhonahgfmaaDoor
