/-
  Contract of the specification's Split.
-/
import Derived.Test.YthcehhonahgfmaaDoorURM
import Derived.Test.YthcehhonahgfmaaDoorUP9
import Derived.Test.YthcehhonahgfmaaDoorURef
import Derived.OwnWalk
import Derived.Deep.LoopGhost
namespace Go.Proofs.YthcehhonahgfmaaDoor
open Go.RowKit
namespace U
open H
set_option linter.unusedVariables false
set_option maxRecDepth 100000
def strV (ps : List (List UInt8)) : List Value := ps.map fun p => Value.string ⟨p.toArray⟩
theorem infoS : (Tryd.prog.info? 9).map (fun i => (i.zero, i.size, i.bytes)) = some (some (.string ⟨#[]⟩), 1, 16) := by kernel_rfl
theorem ext_mid (s : ByteArray) (k j : Nat) : s.extract k j = ⟨((s.data.toList.drop k).take (j - k)).toArray⟩ := by
  apply ba_ext
  simp [List.extract]
theorem ext_end (s : ByteArray) (k : Nat) : s.extract k s.size = ⟨(s.data.toList.drop k).toArray⟩ := by
  rw [ext_mid]
  rw [List.take_of_length_le (by rw [List.length_drop]; exact Nat.le_refl _)]
theorem strV_snoc (ps : List (List UInt8)) (p : List UInt8) : strV (ps ++ [p]) = strV ps ++ [.string ⟨p.toArray⟩] := by
  unfold strV
  rw [List.map_append]
  rfl
set_option maxHeartbeats 1000000 in
theorem rsplit_any (s : ByteArray) (c : UInt8) (w : World) (hs : s.size ≤ 100) :
    Calls Tryd.prog 71 #[.string s, .int .u8 c.toNat] w fun r w' => Below w.heap.size w w' ∧ ∃ z, r = .returned z ∧ w'.ownsRow w.heap.size 9 1 z (splitT c s.data.toList).length (strV (splitT c s.data.toList)) := by
  obtain ⟨i0, hinf, hz0, hz1, hz2⟩ := info_parts infoS
  obtain ⟨l, hl⟩ : ∃ l, s.data.toList = l := ⟨_, rfl⟩
  have hsl : l.length = s.size := by rw [← hl]; rfl
  have HL0 := Lib.hid hl
  rw [hl]
  have hspl := splitT_len c l
  have HLEN := Lib.hid hspl.1
  clear hspl hl
  go_enter Tryd.func71, Tryd.ntmps71
  go_wp2_with fail
  go_loopg [5, 6, 7] s.size (fun g o f i wr => ∃ (j k : Nat) (done : List (List UInt8)) (z : Value), j + g = s.size ∧ z = o ∧ k ≤ j ∧ f = .int .i64 k ∧ i = .int .i64 j ∧ (∀ x ∈ (l.drop k).take (j - k), x ≠ c) ∧ splitT c l = done ++ splitT c (l.drop k) ∧ wr.ownsRow w.heap.size 9 1 z done.length (strV done) ∧ Below w.heap.size w wr)
  case atStart => exact ⟨0, 0, [], _, by omega, rfl, Nat.le_refl _, rfl, rfl, by simp, rfl, World.ownsRow_nil _ _ _ _, Below.refl _ _⟩
  case round =>
    obtain ⟨j, k, done, z, hg, rfl, hkj, rfl, rfl, hseg, hsp, hown, hb⟩ := hrel
    have HG := Lib.hid hg
    have hj : j ≤ s.size := by omega
    have HSEG := Lib.hid hseg
    have HSP := Lib.hid hsp
    have HO := Lib.hid hown
    have HBW := Lib.hid hb
    clear hg hseg hsp hown hb
    by_cases hlt : j < s.size
    · have hi : (j : Int) < (s.size : Int) := by omega
      have hi0 : (0 : Int) ≤ (j : Int) := by omega
      have hat := byte_at hlt
      obtain ⟨b, hb⟩ : ∃ b, s[j] = b := ⟨_, rfl⟩
      rw [hb, HL0.out] at hat
      have HAT := Lib.hid hat
      have HLT := Lib.hid hlt
      by_cases hbc : b = c
      · have hx : (((s[j]'hlt).toNat : Int) == (c.toNat : Int)) = true := by rw [hb, hbc]; simp
        have HEX := Lib.hid (ext_mid s k j)
        rw [HL0.out] at HEX
        have hdl : done.length + 1 ≤ 101 := by
          have h1 := congrArg List.length HSP.out
          have h2 := List.length_pos_iff.2 (splitT_ne c (l.drop k))
          have h3 := HLEN.out
          rw [List.length_append] at h1
          omega
        subst hbc
        have HN := Lib.hid (split_step hkj HSEG.out HSP.out HAT.out)
        clear hat hb
        go_wp2_with (at_builtin; go_loud (refine wpList_append_new rfl (.tmp 19) (.tmp 24) 52 rfl w.heap.size 9 i0 (.string ⟨#[]⟩) 1 16 Tryd.underlying52 hinf hz0 hz1 hz2 rfl (by decide) _ _ _ rfl (HO.out.alloc _) wr.heap.size 1 [.string (s.extract k j)] rfl rfl (fun l u hu => by rw [World.cell?_alloc_new]; simpa using hu) (by simp [Value.oneCell']) (by unfold maxLen; omega) (by omega) (by have := HBW.out.size; simp; omega) ?_); intro v2 w6 ho2 hb2; have HO3 := Lib.hid ho2; have HB6 := Lib.hid ((HBW.out.alloc HBW.out.size _).trans hb2); clear ho2 hb2)
        go_roundg (gk - 1)
        case measure => have := HG.out; have := HLT.out; omega
        case rel =>
          refine ⟨j + 1, j + 1, done ++ [(l.drop k).take (j - k)], _, by have := HG.out; have := HLT.out; omega, rfl, Nat.le_refl _, by go_num, by go_num, seg_nil, HN.out, ?_, HB6.out⟩
          rw [strV_snoc, ← HEX.out, List.length_append]
          exact HO3.out
      · have hx : (((s[j]'hlt).toNat : Int) == (c.toNat : Int)) = false := by
          rw [hb]
          simp only [beq_eq_false_iff_ne, ne_eq]
          intro e
          exact hbc (UInt8.toNat_inj.1 (by omega))
        clear hat hb
        go_wp2_with fail
        go_roundg (gk - 1)
        case measure => have := HG.out; have := HLT.out; omega
        case rel => exact ⟨j + 1, k, done, _, by have := HG.out; have := HLT.out; omega, rfl, by omega, rfl, by go_num, seg_next hkj HSEG.out HAT.out hbc, HSP.out, HO.out, HBW.out⟩
    · have hi : ¬ (j : Int) < (s.size : Int) := by omega
      have HE := Lib.hid (split_end (l := l) (c := c) (f := k) (j := j) (by omega) HSEG.out HSP.out)
      have HEX := Lib.hid (ext_end s k)
      rw [HL0.out] at HEX
      have hdl : done.length + 1 ≤ 101 := by
        have h1 := congrArg List.length HSP.out
        have h2 := List.length_pos_iff.2 (splitT_ne c (l.drop k))
        have h3 := HLEN.out
        rw [List.length_append] at h1
        omega
      go_wp2_with (at_builtin; go_loud (refine wpList_append_new rfl (.tmp 28) (.tmp 32) 52 rfl w.heap.size 9 i0 (.string ⟨#[]⟩) 1 16 Tryd.underlying52 hinf hz0 hz1 hz2 rfl (by decide) _ _ _ rfl (HO.out.alloc _) wr.heap.size 1 [.string (s.extract k s.size)] rfl rfl (fun l u hu => by rw [World.cell?_alloc_new]; simpa using hu) (by simp [Value.oneCell']) (by unfold maxLen; omega) (by omega) (by have := HBW.out.size; simp; omega) ?_); intro v2 w6 ho2 hb2; have HO3 := Lib.hid ho2; have HB6 := Lib.hid ((HBW.out.alloc HBW.out.size _).trans hb2); clear ho2 hb2)
      go_ret
      refine ⟨HB6.out, _, rfl, ?_⟩
      rw [HE.out, strV_snoc, ← HEX.out, List.length_append]
      exact HO3.out
end U
end Go.Proofs.YthcehhonahgfmaaDoor
