/-
  Contract of the specification's Number.
-/
import Derived.Test.YthcehhonahgfmaaDoorURM
import Derived.Test.YthcehhonahgfmaaDoorURef
import Derived.OwnWalk
import Derived.Deep.LoopGhost
namespace Go.Proofs.YthcehhonahgfmaaDoor
open Go.RowKit
namespace U
open H
set_option linter.unusedVariables false
set_option maxRecDepth 100000
set_option maxHeartbeats 1000000 in
theorem rnum_any (s : ByteArray) (w : World) (hs : s.size ≤ 100) :
    Calls Tryd.prog 70 #[.string s] w fun r w' => r = .returned (.tuple #[.int .i64 (numT s.data.toList).1, .bool (numT s.data.toList).2]) ∧ w' = w := by
  have hsl : s.data.toList.length = s.size := rfl
  obtain ⟨l, hl⟩ : ∃ l, s.data.toList = l := ⟨_, rfl⟩
  rw [hl] at hsl
  have HL0 := Lib.hid hl
  rw [hl]
  have hn := num_from l
  by_cases h0 : s.size = 0
  · have HR := Lib.hid (hn 0 (Or.inr ⟨by rw [List.head?_eq_getElem?, List.getElem?_eq_none (by omega)]; simp, rfl⟩) |>.trans (if_pos (Or.inl (by omega))))
    have hsz : (s.size : Int) = 0 := by omega
    clear hn hsl hl
    go_enter Tryd.func70, Tryd.ntmps70
    go_wp2_with fail
    go_ret2
    exact ⟨by rw [HR.out]; rfl, rfl⟩
  · have h00 : 0 < s.size := by omega
    have hat0 := byte_at h00
    obtain ⟨c0, hc0⟩ : ∃ c0, s[0] = c0 := ⟨_, rfl⟩
    rw [hc0, hl] at hat0
    have hz0 : (0 : Int) < (s.size : Int) := by omega
    by_cases h45 : c0.toNat = 45
    · have hx : (((s[0]'h00).toNat : Int) == 45) = true := by rw [hc0]; simp; omega
      have h45' : c0 = 45 := UInt8.toNat_inj.1 h45
      have hn1 := hn 1 (Or.inl ⟨by rw [List.head?_eq_getElem?, hat0, h45'], rfl⟩)
      by_cases h1 : s.size = 1
      · have HR := Lib.hid (hn1.trans (if_pos (Or.inl (by omega))))
        have hsz : (s.size : Int) = 1 := by omega
        clear hn hn1 hsl hl hc0 hat0 h45 h45' hs
        go_enter Tryd.func70, Tryd.ntmps70
        go_wp2_with fail
        go_ret2
        exact ⟨by rw [HR.out]; rfl, rfl⟩
      · have h11 : 1 < s.size := by omega
        have hat1 := byte_at h11
        obtain ⟨c1, hc1⟩ : ∃ c1, s[1] = c1 := ⟨_, rfl⟩
        rw [hc1, hl] at hat1
        have hz1 : (1 : Int) < (s.size : Int) := by omega
        have hz2 : ((1 : Int) == (s.size : Int)) = false := by simp; omega
        by_cases h48 : c1.toNat = 48
        · have hx1 : (((s[1]'h11).toNat : Int) == 48) = true := by rw [hc1]; simp; omega
          have HR := Lib.hid (hn1.trans (if_pos (Or.inr ⟨by rw [hat1]; congr 1; exact UInt8.toNat_inj.1 h48, by omega⟩)))
          clear hn hn1 hsl hl hc0 hat0 h45 h45' hc1 hat1 h48
          go_enter Tryd.func70, Tryd.ntmps70
          go_wp2_with fail
          go_ret2
          exact ⟨by rw [HR.out]; rfl, rfl⟩
        · have hx1 : (((s[1]'h11).toNat : Int) == 48) = false := by rw [hc1]; simp; omega
          have HR := Lib.hid (hn1.trans (if_neg (by rintro (h | h); omega; rw [hat1] at h; have := h.1; injection this with this; rw [this] at h48; exact h48 rfl)))
          clear hn hn1 hsl hl hc0 hat0 h45 h45' hc1 hat1 h48
          go_enter Tryd.func70, Tryd.ntmps70
          go_wp2_with fail
          go_loopg [5, 6] (s.size - 1) (fun g n i wr => ∃ k : Nat, 1 + k + g = s.size ∧ i = .int .i64 ((1 : Nat) + k : Nat) ∧ n = .int .i64 (digs ((l.drop 1).take k) : Nat) ∧ ((l.drop 1).take k).all isDig = true ∧ wr = w)
          case atStart => exact ⟨0, by omega, by go_num, rfl, rfl, rfl⟩
          case round =>
            obtain ⟨k, hg, rfl, rfl, hall, rfl⟩ := hrel
            have HG := Lib.hid hg
            have HALL := Lib.hid hall
            have hj : 1 + k ≤ s.size := by omega
            have hdl := digs_le ((l.drop 1).take k)
            obtain ⟨dv, hdv⟩ : ∃ dv, digs ((l.drop 1).take k) = dv := ⟨_, rfl⟩
            rw [hdv] at hdl ⊢
            have HDV := Lib.hid hdv
            obtain ⟨j, hjk⟩ : ∃ j, 1 + k = j := ⟨_, rfl⟩
            rw [hjk] at hj ⊢
            have HJK := Lib.hid hjk
            clear hg hall hdv hjk
            by_cases hlt : j < s.size
            · have hi : (j : Int) < (s.size : Int) := by omega
              have hi0 : (0 : Int) ≤ (j : Int) := by omega
              have hat := byte_at hlt
              obtain ⟨c2, hc⟩ : ∃ c2, s[j] = c2 := ⟨_, rfl⟩
              rw [hc] at hat
              have HLT := Lib.hid hlt
              have HC := Lib.hid hc
              have HAT := Lib.hid (show (l.drop 1)[k]? = some c2 by rw [List.getElem?_drop, HJK.out, ← HL0.out]; exact hat)
              have hcu : c2.toNat < 256 := c2.toNat_lt
              by_cases h1 : 48 ≤ c2.toNat ∧ c2.toNat ≤ 57
              · have hx1 : (((s[j]'hlt).toNat : Int) < 48) = False := by rw [HC.out]; simp; omega
                have hx2 : ((57 : Int) < ((s[j]'hlt).toNat : Int)) = False := by rw [HC.out]; simp; omega
                have HD := Lib.hid (show isDig c2 = true by unfold isDig; simp [h1])
                clear hat hc
                go_wp2_with fail
                all_goals
                  go_roundg (gk - 1)
                  case measure => have := HG.out; have := HLT.out; have := HJK.out; omega
                  case rel =>
                    refine ⟨k + 1, by have := HG.out; have := HLT.out; have := HJK.out; omega, by have := HJK.out; congr 1; omega, ?_, by rw [take_all _ HAT.out, HALL.out, HD.out]; rfl, rfl⟩
                    rw [List.take_add_one, HAT.out]
                    simp only [Option.toList_some]
                    rw [digs_snoc, HDV.out]
                    have hcc := HC.out
                    simp only [hcc] at *
                    unfold dstep
                    congr 1
                    omega
              · have HD := Lib.hid (show isDig c2 = false by unfold isDig; simp; omega)
                by_cases h2 : c2.toNat < 48
                · have hx1 : (((s[j]'hlt).toNat : Int) < 48) = True := by rw [HC.out]; simp; omega
                  clear hat hc h1
                  go_wp2_with fail
                  go_ret2
                  exact ⟨by rw [HR.out, all_false HAT.out HD.out]; rfl, rfl⟩
                · have hx1 : (((s[j]'hlt).toNat : Int) < 48) = False := by rw [HC.out]; simp; omega
                  have hx2 : ((57 : Int) < ((s[j]'hlt).toNat : Int)) = True := by rw [HC.out]; simp; omega
                  clear hat hc h1
                  go_wp2_with fail
                  go_ret2
                  exact ⟨by rw [HR.out, all_false HAT.out HD.out]; rfl, rfl⟩
            · have hi : ¬ (j : Int) < (s.size : Int) := by omega
              have htk : (l.drop 1).take k = l.drop 1 := List.take_of_length_le (by rw [List.length_drop, ← HL0.out]; show s.size - 1 ≤ k; have := HJK.out; omega)
              have hall := HALL.out
              have hdv := HDV.out
              rw [htk] at hall hdv
              have HALL2 := Lib.hid hall
              have HDV2 := Lib.hid hdv
              clear hall hdv htk
              go_wp2_with fail
              go_ret2
              exact ⟨by rw [HR.out, HALL2.out, HDV2.out]; rfl, rfl⟩
    · have hx : (((s[0]'h00).toNat : Int) == 45) = false := by rw [hc0]; simp; omega
      have hn1 := hn 0 (Or.inr ⟨by rw [List.head?_eq_getElem?, hat0]; intro e; injection e with e; rw [e] at h45; exact h45 rfl, rfl⟩)
      have hz2 : ((0 : Int) == (s.size : Int)) = false := by simp; omega
      by_cases h48 : c0.toNat = 48
      · have hx1 : (((s[0]'h00).toNat : Int) == 48) = true := by rw [hc0]; simp; omega
        by_cases h1 : s.size = 1
        · have hsz : ¬ (1 : Int) < (s.size : Int) := by omega
          have HR := Lib.hid (hn1.trans (if_neg (by omega)))
          clear hn hn1 hsl hl hc0 hat0 h45 h48
          go_enter Tryd.func70, Tryd.ntmps70
          go_wp2_with fail
          go_loopg [5, 6] s.size (fun g n i wr => ∃ k : Nat, 0 + k + g = s.size ∧ i = .int .i64 ((0 : Nat) + k : Nat) ∧ n = .int .i64 (digs ((l.drop 0).take k) : Nat) ∧ ((l.drop 0).take k).all isDig = true ∧ wr = w)
          case atStart => exact ⟨0, by omega, by go_num, rfl, rfl, rfl⟩
          case round =>
            obtain ⟨k, hg, rfl, rfl, hall, rfl⟩ := hrel
            have HG := Lib.hid hg
            have HALL := Lib.hid hall
            have hj : 0 + k ≤ s.size := by omega
            have hdl := digs_le ((l.drop 0).take k)
            obtain ⟨dv, hdv⟩ : ∃ dv, digs ((l.drop 0).take k) = dv := ⟨_, rfl⟩
            rw [hdv] at hdl ⊢
            have HDV := Lib.hid hdv
            obtain ⟨j, hjk⟩ : ∃ j, 0 + k = j := ⟨_, rfl⟩
            rw [hjk] at hj ⊢
            have HJK := Lib.hid hjk
            clear hg hall hdv hjk
            by_cases hlt : j < s.size
            · have hi : (j : Int) < (s.size : Int) := by omega
              have hi0 : (0 : Int) ≤ (j : Int) := by omega
              have hat := byte_at hlt
              obtain ⟨c2, hc⟩ : ∃ c2, s[j] = c2 := ⟨_, rfl⟩
              rw [hc] at hat
              have HLT := Lib.hid hlt
              have HC := Lib.hid hc
              have HAT := Lib.hid (show (l.drop 0)[k]? = some c2 by rw [List.getElem?_drop, HJK.out, ← HL0.out]; exact hat)
              have hcu : c2.toNat < 256 := c2.toNat_lt
              by_cases h1 : 48 ≤ c2.toNat ∧ c2.toNat ≤ 57
              · have hx1 : (((s[j]'hlt).toNat : Int) < 48) = False := by rw [HC.out]; simp; omega
                have hx2 : ((57 : Int) < ((s[j]'hlt).toNat : Int)) = False := by rw [HC.out]; simp; omega
                have HD := Lib.hid (show isDig c2 = true by unfold isDig; simp [h1])
                clear hat hc
                go_wp2_with fail
                all_goals
                  go_roundg (gk - 1)
                  case measure => have := HG.out; have := HLT.out; have := HJK.out; omega
                  case rel =>
                    refine ⟨k + 1, by have := HG.out; have := HLT.out; have := HJK.out; omega, by have := HJK.out; congr 1; omega, ?_, by rw [take_all _ HAT.out, HALL.out, HD.out]; rfl, rfl⟩
                    rw [List.take_add_one, HAT.out]
                    simp only [Option.toList_some]
                    rw [digs_snoc, HDV.out]
                    have hcc := HC.out
                    simp only [hcc] at *
                    unfold dstep
                    congr 1
                    omega
              · have HD := Lib.hid (show isDig c2 = false by unfold isDig; simp; omega)
                by_cases h2 : c2.toNat < 48
                · have hx1 : (((s[j]'hlt).toNat : Int) < 48) = True := by rw [HC.out]; simp; omega
                  clear hat hc h1
                  go_wp2_with fail
                  go_ret2
                  exact ⟨by rw [HR.out, all_false HAT.out HD.out]; rfl, rfl⟩
                · have hx1 : (((s[j]'hlt).toNat : Int) < 48) = False := by rw [HC.out]; simp; omega
                  have hx2 : ((57 : Int) < ((s[j]'hlt).toNat : Int)) = True := by rw [HC.out]; simp; omega
                  clear hat hc h1
                  go_wp2_with fail
                  go_ret2
                  exact ⟨by rw [HR.out, all_false HAT.out HD.out]; rfl, rfl⟩
            · have hi : ¬ (j : Int) < (s.size : Int) := by omega
              have htk : (l.drop 0).take k = l.drop 0 := List.take_of_length_le (by rw [List.length_drop, ← HL0.out]; show s.size - 0 ≤ k; have := HJK.out; omega)
              have hall := HALL.out
              have hdv := HDV.out
              rw [htk] at hall hdv
              have HALL2 := Lib.hid hall
              have HDV2 := Lib.hid hdv
              clear hall hdv htk
              go_wp2_with fail
              go_ret2
              exact ⟨by rw [HR.out, HALL2.out, HDV2.out]; rfl, rfl⟩
        · have hz1 : (1 : Int) < (s.size : Int) := by omega
          have HR := Lib.hid (hn1.trans (if_pos (Or.inr ⟨by rw [hat0]; congr 1; exact UInt8.toNat_inj.1 h48, by omega⟩)))
          clear hn hn1 hsl hl hc0 hat0 h45 h48
          go_enter Tryd.func70, Tryd.ntmps70
          go_wp2_with fail
          go_ret2
          exact ⟨by rw [HR.out]; rfl, rfl⟩
      · have hx1 : (((s[0]'h00).toNat : Int) == 48) = false := by rw [hc0]; simp; omega
        have HR := Lib.hid (hn1.trans (if_neg (by rintro (h | h); omega; rw [hat0] at h; have := h.1; injection this with this; rw [this] at h48; exact h48 rfl)))
        clear hn hn1 hsl hl hc0 hat0 h45 h48
        go_enter Tryd.func70, Tryd.ntmps70
        go_wp2_with fail
        go_loopg [5, 6] s.size (fun g n i wr => ∃ k : Nat, 0 + k + g = s.size ∧ i = .int .i64 ((0 : Nat) + k : Nat) ∧ n = .int .i64 (digs ((l.drop 0).take k) : Nat) ∧ ((l.drop 0).take k).all isDig = true ∧ wr = w)
        case atStart => exact ⟨0, by omega, by go_num, rfl, rfl, rfl⟩
        case round =>
          obtain ⟨k, hg, rfl, rfl, hall, rfl⟩ := hrel
          have HG := Lib.hid hg
          have HALL := Lib.hid hall
          have hj : 0 + k ≤ s.size := by omega
          have hdl := digs_le ((l.drop 0).take k)
          obtain ⟨dv, hdv⟩ : ∃ dv, digs ((l.drop 0).take k) = dv := ⟨_, rfl⟩
          rw [hdv] at hdl ⊢
          have HDV := Lib.hid hdv
          obtain ⟨j, hjk⟩ : ∃ j, 0 + k = j := ⟨_, rfl⟩
          rw [hjk] at hj ⊢
          have HJK := Lib.hid hjk
          clear hg hall hdv hjk
          by_cases hlt : j < s.size
          · have hi : (j : Int) < (s.size : Int) := by omega
            have hi0 : (0 : Int) ≤ (j : Int) := by omega
            have hat := byte_at hlt
            obtain ⟨c2, hc⟩ : ∃ c2, s[j] = c2 := ⟨_, rfl⟩
            rw [hc] at hat
            have HLT := Lib.hid hlt
            have HC := Lib.hid hc
            have HAT := Lib.hid (show (l.drop 0)[k]? = some c2 by rw [List.getElem?_drop, HJK.out, ← HL0.out]; exact hat)
            have hcu : c2.toNat < 256 := c2.toNat_lt
            by_cases h1 : 48 ≤ c2.toNat ∧ c2.toNat ≤ 57
            · have hx1 : (((s[j]'hlt).toNat : Int) < 48) = False := by rw [HC.out]; simp; omega
              have hx2 : ((57 : Int) < ((s[j]'hlt).toNat : Int)) = False := by rw [HC.out]; simp; omega
              have HD := Lib.hid (show isDig c2 = true by unfold isDig; simp [h1])
              clear hat hc
              go_wp2_with fail
              all_goals
                go_roundg (gk - 1)
                case measure => have := HG.out; have := HLT.out; have := HJK.out; omega
                case rel =>
                  refine ⟨k + 1, by have := HG.out; have := HLT.out; have := HJK.out; omega, by have := HJK.out; congr 1; omega, ?_, by rw [take_all _ HAT.out, HALL.out, HD.out]; rfl, rfl⟩
                  rw [List.take_add_one, HAT.out]
                  simp only [Option.toList_some]
                  rw [digs_snoc, HDV.out]
                  have hcc := HC.out
                  simp only [hcc] at *
                  unfold dstep
                  congr 1
                  omega
            · have HD := Lib.hid (show isDig c2 = false by unfold isDig; simp; omega)
              by_cases h2 : c2.toNat < 48
              · have hx1 : (((s[j]'hlt).toNat : Int) < 48) = True := by rw [HC.out]; simp; omega
                clear hat hc h1
                go_wp2_with fail
                go_ret2
                exact ⟨by rw [HR.out, all_false HAT.out HD.out]; rfl, rfl⟩
              · have hx1 : (((s[j]'hlt).toNat : Int) < 48) = False := by rw [HC.out]; simp; omega
                have hx2 : ((57 : Int) < ((s[j]'hlt).toNat : Int)) = True := by rw [HC.out]; simp; omega
                clear hat hc h1
                go_wp2_with fail
                go_ret2
                exact ⟨by rw [HR.out, all_false HAT.out HD.out]; rfl, rfl⟩
          · have hi : ¬ (j : Int) < (s.size : Int) := by omega
            have htk : (l.drop 0).take k = l.drop 0 := List.take_of_length_le (by rw [List.length_drop, ← HL0.out]; show s.size - 0 ≤ k; have := HJK.out; omega)
            have hall := HALL.out
            have hdv := HDV.out
            rw [htk] at hall hdv
            have HALL2 := Lib.hid hall
            have HDV2 := Lib.hid hdv
            clear hall hdv htk
            go_wp2_with fail
            go_ret2
            exact ⟨by rw [HR.out, HALL2.out, HDV2.out]; rfl, rfl⟩
end U
end Go.Proofs.YthcehhonahgfmaaDoor
