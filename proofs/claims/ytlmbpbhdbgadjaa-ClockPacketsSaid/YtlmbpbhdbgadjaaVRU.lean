/-
  The program's Reader: Uint, Int, Err, End, Fail.
-/
import Derived.Test.YtlmbpbhdbgadjaaVRep
import Derived.WalkMore
import Derived.Deep.LoopGhost
import Derived.Laws.BitsAllLaws
import Derived.Laws.BitsLemmas
import Derived.Lib.EndianBits
namespace Go.Proofs.Ytlmbpbhdbgadjaa
open Go.RowKit
namespace W
open H
set_option linter.unusedVariables false

theorem Save.one (w : World) (b i : Nat) (v : Value) : Save (· = b) w (w.setCell ⟨b, i, none⟩ v) := Save.setCell (F := (· = b)) (Save.refl _ _) (p := ⟨b, i, none⟩) rfl v

set_option maxHeartbeats 1000000 in
theorem fail_rd {w : World} {b : Nat} {A : Option Addr} {n c : Nat} {bs : List Int} {k : Nat} {e : Int} (x : Int) (h : RAt w b A n c bs k e) :
    Calls Try.prog 65 #[.pointer (some ⟨b, 0, none⟩), .int .i64 x] w fun r w' => r = .returned (.tuple #[]) ∧ RAt w' b A n c bs k (if e = 0 then x else e) ∧ Save (· = b) w w' := by
  have c2 := blk_cell h.blk 2
  have f2 := blk_frozen h.blk 2
  simp at c2
  have HH := Lib.hid h
  clear h
  by_cases he : e = 0
  · subst he
    go_enter Try.func65, Try.ntmps65
    go_wp2
    go_end0
    exact ⟨rfl, HH.out.upd (Save.one _ _ _ _) (blk_set HH.out.blk 2 _) HH.out.pos, Save.one _ _ _ _⟩
  · have h1 : (e == 0) = false := by simpa using he
    rw [if_neg he]
    clear he
    go_enter Try.func65, Try.ntmps65
    go_wp2
    go_end0
    exact ⟨rfl, HH.out, Save.refl _ _⟩

theorem andNot128 {z : Int} (h0 : 0 ≤ z) (h1 : z < 256) : bits .andNot .u8 z 128 = z % 128 := by
  rw [u8_andNot z 128 h0 h1 (by decide) (by decide)]
  have : (255 - (128 : Int).toNat) = 2 ^ 7 - 1 := by decide
  rw [this, Nat.and_two_pow_sub_one_eq_mod]
  omega
theorem pow7 (j : Nat) : (2 : Int) ^ (7 * j) = ((128 ^ j : Nat) : Int) := by
  rw [Int.pow_mul]
  simp
/-- The number so far, and the next seven bits. -/
theorem or_acc {acc j : Nat} {z : Int} (h0 : 0 ≤ z) (h1 : z < 256) (ha : acc < 128 ^ j) (hlt : 128 ^ j * (z % 128).toNat < 18446744073709551616) (hj : j ≤ 9) :
    bits .or .u64 acc (IntKind.u64.wrap (IntKind.u64.wrap (bits .andNot .u8 z 128) * 2 ^ (7 * j))) = ((acc + 128 ^ j * (z % 128).toNat : Nat) : Int) := by
  have hle := pow_le hj
  rw [andNot128 h0 h1, pow7, wraps_u64 (z % 128) (by omega) (by omega)]
  have e : z % 128 * ((128 ^ j : Nat) : Int) = ((128 ^ j * (z % 128).toNat : Nat) : Int) := by
    rw [Int.natCast_mul, Int.toNat_of_nonneg (by omega), Int.mul_comm]
  rw [e]
  have hw := wraps_u64 ((128 ^ j * (z % 128).toNat : Nat) : Int) (by omega) (by omega)
  rw [hw]
  have hm : ((128 ^ j * (z % 128).toNat : Nat) : Int) % 2 ^ (7 * j) = 0 := by
    rw [pow7]
    exact_mod_cast Nat.mul_mod_right _ _
  have := bits_join_low .u64 64 (by decide) wraps_u64 (7 * j) (acc : Int) ((128 ^ j * (z % 128).toNat : Nat) : Int) (by omega) (by rw [pow7]; omega) (by omega) (by omega) hm (by omega)
  rw [this]
  omega

theorem RAt.drewN {w : World} {b : Nat} {A : Option Addr} {n c : Nat} {bs : List Int} {k : Nat} {e : Int} (h : RAt w b A n c bs k e) (m : Nat) : RAt (w.drewN m) b A n c bs k e :=
  h.keep (Nat.le_refl _) rfl fun _ _ => rfl
theorem RAt.next {w : World} {b : Nat} {A : Option Addr} {n c : Nat} {bs : List Int} {k : Nat} {e : Int} (h : RAt w b A n c bs k e) (hk : k < n) (v : Int) (hv : v = (k : Int) + 1) : RAt (w.setCell ⟨b, 1, none⟩ (.int .i64 v)) b A n c bs (k + 1) e := by
  subst hv
  exact h.upd (Save.one _ _ _ _) (blk_set h.blk 1 _) hk
theorem RAt.failed {w : World} {b : Nat} {A : Option Addr} {n c : Nat} {bs : List Int} {k : Nat} {e : Int} (h : RAt w b A n c bs k e) (x : Int) : RAt (w.setCell ⟨b, 2, none⟩ (.int .i64 x)) b A n c bs k x :=
  h.upd (Save.one _ _ _ _) (blk_set h.blk 2 _) h.pos

/-- What a Reader's state says. -/
def StOf (bs : List Int) (k : Nat) (e : Int) (s : St) : Prop := s.2 = e ∧ (e = 0 → s.1 = bs.drop k)

set_option maxHeartbeats 1000000 in
theorem end_rd {w : World} {b : Nat} {A : Option Addr} {n c : Nat} {bs : List Int} {k : Nat} {e : Int} {s : St} (h : RAt w b A n c bs k e) (hs : StOf bs k e s) :
    Calls Try.prog 43 #[.pointer (some ⟨b, 0, none⟩)] w fun r w' => r = .returned (.int .i64 (endOf s)) ∧ ∃ m, w' = w.drewN m := by
  have c0 := blk_cell h.blk 0
  have c1 := blk_cell h.blk 1
  have c2 := blk_cell h.blk 2
  simp at c0 c1 c2
  have hp := h.pos
  have hl := h.len
  have hsm := h.small
  clear h
  obtain ⟨s1, s2⟩ := s
  obtain ⟨rfl, hs1⟩ := hs
  simp only at hs1 c2
  by_cases he : s2 = 0
  · subst he
    obtain rfl := hs1 rfl
    clear hs1
    have hend : endOf (bs.drop k, 0) = if k < n then 7 else 0 := by
      unfold endOf
      by_cases hk : k < n
      · rw [if_pos hk, if_pos ⟨rfl, fun h => by have := congrArg List.length h; simp at this; omega⟩]
      · rw [if_neg hk, if_neg fun h => h.2 (List.drop_of_length_le (by omega))]
    rw [hend]
    clear hend hl
    by_cases hk : k < n
    · have hkk : (k : Int) < (n : Int) := by omega
      rw [if_pos hk]
      go_enter Try.func43, Try.ntmps43
      go_wp2
      go_quiet (fail)
      go_wp2
      go_ret
      exact ⟨rfl, _, rfl⟩
    · have hkk : ¬ (k : Int) < (n : Int) := by omega
      rw [if_neg hk]
      go_enter Try.func43, Try.ntmps43
      go_wp2
      go_quiet (fail)
      go_wp2
      go_ret
      exact ⟨rfl, _, rfl⟩
  · have h1 : (s2 == 0) = false := by simpa using he
    have hend : endOf (s1, s2) = s2 := by
      unfold endOf
      rw [if_neg fun h => he h.1]
    rw [hend]
    clear hend hs1 he hl
    go_enter Try.func43, Try.ntmps43
    go_wp2
    go_quiet (fail)
    go_wp2
    go_ret
    exact ⟨rfl, _, rfl⟩

set_option maxRecDepth 100000 in
set_option maxHeartbeats 1000000 in
theorem uint_rd {w : World} {b : Nat} {A : Option Addr} {n c : Nat} {bs : List Int} {k : Nat} {e : Int} {s : St} (h : RAt w b A n c bs k e) (hs : StOf bs k e s) :
    Calls Try.prog 64 #[.pointer (some ⟨b, 0, none⟩)] w fun r w' => r = .returned (.int .u64 (rU s).2) ∧ ∃ k' e', RAt w' b A n c bs k' e' ∧ StOf bs k' e' (rU s).1 ∧ Save (· = b) w w' := by
  have c2 := blk_cell h.blk 2
  simp at c2
  obtain ⟨s1, s2⟩ := s
  obtain ⟨rfl, hs1⟩ := hs
  simp only at hs1 c2 h
  have HH := Lib.hid h
  clear h
  by_cases he : s2 = 0
  · subst he
    obtain rfl := hs1 rfl
    clear hs1
    have hsm := HH.out.small
    have hkn := HH.out.pos
    have HL := Lib.hid HH.out.len
    have HB := Lib.hid HH.out.byt
    have h63 : n ≤ 9223372036854775807 := by omega
    go_enter Try.func64, Try.ntmps64
    go_wp2
    go_step3
    go_wp2
    go_step3
    go_wp2
    clear c2
    go_loopg [3, 4] 9 (fun g a i wr => ∃ j acc : Nat, j + g = 9 ∧ i = .int .i64 j ∧ a = .int .u64 acc ∧ Mid (bs.drop k) j acc ∧ RAt wr b A n c bs (k + j) 0 ∧ Save (· = b) w wr)
    case atStart => exact ⟨0, 0, rfl, rfl, rfl, Mid.start _, HH.out, Save.refl _ _⟩
    case round =>
      obtain ⟨j, acc, hg, rfl, rfl, hM, hR, hS⟩ := hrel
      have c0 := blk_cell hR.blk 0
      have c1 := blk_cell hR.blk 1
      have c2 := blk_cell hR.blk 2
      have f1 := blk_frozen hR.blk 1
      have f2 := blk_frozen hR.blk 2
      simp at c0 c1 c2
      have hk9 := hM.1
      have hacc := hM.2.1
      have HM := Lib.hid hM
      have HR := Lib.hid hR
      have HS := Lib.hid hS
      have hpos := hR.pos
      clear hM hR hS
      by_cases hlt : k + j < n
      · obtain ⟨ad, rfl, _, hx⟩ := HR.out.rd (k + j) (by rw [HL.out]; exact hlt)
        have gz : (bs.drop k)[j]? = some (bs[k + j]?.getD 0) := by rw [List.getElem?_drop, List.getElem?_eq_getElem (by rw [HL.out]; exact hlt)]; rfl
        have hzz := HB.out (bs[k + j]?.getD 0) (by rw [List.getElem?_eq_getElem (by rw [HL.out]; exact hlt)]; exact List.getElem_mem _)
        generalize bs[k + j]?.getD 0 = z at hx gz hzz
        have GZ := Lib.hid gz
        have hz0 := hzz.1
        have hz1 := hzz.2
        have q0 : (((k + j : Nat) : Int) == (n : Int)) = false := by simp; omega
        have q1 : (0 : Int) ≤ ((k + j : Nat) : Int) := by omega
        have q2 : ((k + j : Nat) : Int) < (n : Int) := by omega
        have hcase : ((((j : Int) == 9) = true ∧ (z != 1) = true) ∨ (((j : Int) == 9) = false ∧ 0 < j ∧ (z == 0) = true)) ∨
            ((z < 128 ∨ 128 ≤ z) ∧ ((((j : Int) == 9) = true ∧ 0 < j ∧ (z != 1) = false ∧ (z == 0) = false ∧ z < 128) ∨ (((j : Int) == 9) = false ∧ 0 < j ∧ (z == 0) = false) ∨ (((j : Int) == 9) = false ∧ j < 1))) := by
          simp only [beq_iff_eq, bne_iff_ne, beq_eq_false_iff_ne, bne_eq_false_iff_eq]
          omega
        have HG := Lib.hid hg
        clear gz hzz hg
        rcases hcase with hbad | ⟨hz, hok⟩
        · have h7 := HM.out.bad GZ.out (by
            simp only [beq_iff_eq, bne_iff_ne, beq_eq_false_iff_ne] at hbad
            omega)
          have H7 := Lib.hid (rU_no h7)
          clear h7 hacc
          rcases hbad with ⟨g9, g1⟩ | ⟨g9, gk, g0⟩
          all_goals
            go_wp2
            go_quiet (fail)
            go_wp2
            go_quiet (fail)
            go_wp2
            try rw [Exit.noGoto_ret]
            go_ret
            exact ⟨by rw [H7.out]; rfl, k + j + 1, 7, ((HR.out.drewN _).next hlt _ (by omega)).failed 7, by rw [H7.out]; exact ⟨rfl, fun h => by cases h⟩, ((HS.out.drewN _).trans (Save.one _ _ _ _)).trans (Save.one _ _ _ _)⟩
        · have hg : ¬ ((j = 9 ∧ z ≠ 1) ∨ (0 < j ∧ z = 0)) := by
            simp only [beq_iff_eq, beq_eq_false_iff_ne, bne_eq_false_iff_eq] at hok
            omega
          by_cases hzl : z < 128
          · have hrd := HM.out.last GZ.out hg hzl
            have hbd := (rd_canon (bs.drop k) 0 _ _ (fun x hx => HB.out x (List.mem_of_mem_drop hx)) (by omega) hrd).2.2
            have e0 : z.toNat = (z % 128).toNat := by omega
            have hval := or_acc hz0 hz1 hacc (by rw [← e0]; have : (2 : Nat) * 128 ^ (9 - 0) = 18446744073709551616 := by decide
                                                 omega) hk9
            rw [← e0] at hval
            have hU := rU_ok hrd
            rw [List.drop_drop] at hU
            have HV := Lib.hid hval
            have HU := Lib.hid hU
            clear hrd hbd e0 hval hU hg hacc
            have hz' : ¬ 128 ≤ z := by omega
            rcases hok with ⟨g9, gk, g1, g0, gz⟩ | ⟨g9, gk, g0⟩ | ⟨g9, gk⟩
            all_goals
              go_wp2
              go_quiet (fail)
              go_wp2
              go_quiet (fail)
              go_wp2
              try rw [Exit.noGoto_ret]
              go_ret
              refine ⟨?_, k + j + 1, 0, (HR.out.drewN _).next hlt _ (by omega), by rw [HU.out]; exact ⟨rfl, fun _ => by rw [Nat.add_assoc]⟩, (HS.out.drewN _).trans (Save.one _ _ _ _)⟩
              rw [HU.out]
              exact ret_int HV.out
          · have hk9' : j < 9 := by
              simp only [beq_iff_eq, beq_eq_false_iff_ne, bne_eq_false_iff_eq] at hok
              omega
            have hnx := HM.out.next GZ.out hk9' (by omega)
            have hle := pow_le (k := j + 1) (by omega)
            have hval := or_acc hz0 hz1 hacc (by have := hnx.2.1; omega) hk9
            have HV := Lib.hid hval
            have HN := Lib.hid hnx
            clear hnx hle hval hg hacc
            rcases hok with ⟨g9, gk, g1, g0, gz⟩ | ⟨g9, gk, g0⟩ | ⟨g9, gk⟩
            · exact absurd gz hzl
            all_goals
              go_wp2
              go_quiet (fail)
              go_wp2
              go_quiet (fail)
              go_wp2
              go_roundg (8 - j)
              case measure => have := HG.out; omega
              case rel => exact ⟨j + 1, acc + 128 ^ j * (z % 128).toNat, by omega, by go_num, congrArg (Value.int .u64) HV.out, HN.out, (HR.out.drewN _).next hlt _ (by omega), (HS.out.drewN _).trans (Save.one _ _ _ _)⟩
      · have h6 := HM.out.short (by rw [List.length_drop, HL.out]; omega)
        have H6 := Lib.hid (rU_no h6)
        have q0 : ((k : Int) + (j : Int) == (n : Int)) = true := by simp; omega
        clear h6 hacc hg
        go_wp2
        go_quiet (fail)
        go_wp2
        try rw [Exit.noGoto_ret]
        go_ret
        exact ⟨by rw [H6.out]; rfl, k + j, 6, (HR.out.drewN _).failed 6, by rw [H6.out]; exact ⟨rfl, fun h => by cases h⟩, (HS.out.drewN _).trans (Save.one _ _ _ _)⟩
  · have h1 : (s2 != 0) = true := by simpa using he
    have hU : rU (s1, s2) = ((s1, s2), 0) := rU_err he
    rw [hU]
    have HS1 := Lib.hid hs1
    clear hU he hs1
    go_enter Try.func64, Try.ntmps64
    go_wp2
    go_step3
    go_wp2
    try rw [Exit.noGoto_ret]
    go_ret
    exact ⟨rfl, k, s2, HH.out, ⟨rfl, HS1.out⟩, Save.refl _ _⟩

end W
end Go.Proofs.Ytlmbpbhdbgadjaa
