/-
  The specification's encodings of numbers, byte slices and lists.
-/
import Derived.Test.YtdfokmhpnniphaaWSame
import Derived.Laws.AppendOwnNone
namespace Go.Proofs.Ytdfokmhpnniphaa
open Go.RowKit
namespace W
open H

set_option maxHeartbeats 1000000 in
theorem int_any (n : Int) (w : World) (hn : -9223372036854775808 ≤ n ∧ n ≤ 9223372036854775807) :
    Calls Try.prog 41 #[.int .i64 n] w fun e w' => ∃ v, e = .returned v ∧ OwnB w w' (encU (zig n)) v := by
  have hz := zig_any n w hn
  have hu := uint_any (zig n) w (zig_lt hn)
  clear hn
  go_enter Try.func41, Try.ntmps41
  go_wp2_with fail
  refine hz.mono ?_
  rintro e w' ⟨rfl, rfl⟩
  go_wp2_with fail
  refine hu.mono ?_
  rintro e w1 ⟨v, rfl, ho⟩
  have HO := Lib.hid ho
  clear ho hu hz
  go_wp2_with fail
  go_ret
  exact ⟨v, rfl, HO.out⟩

/-- What an append to an own row leaves, where the block of the appended cells lies elsewhere. -/
theorem own_below0 {W w1 : World} {base k : Nat} {e : TypeId} {v : Value} {xs : List Value} (hb : base ≤ W.heap.size) (hrow : W.ownsRow base e 1 v k xs) (hgrow : W.grownBy w1 v.ownBlock) : Below base W w1 := by
  refine (Below.refl base W).grown hgrow hb fun j ej => ?_
  rcases hrow.2 with ⟨rfl, _⟩ | ⟨g, cap, cur, rfl, hb, _, _⟩
  · simp [Value.ownBlock] at ej
  · obtain rfl : g = j := by simpa [Value.ownBlock] using ej
    exact hb

set_option maxHeartbeats 1000000 in
theorem encb_any (A : Option Addr) (n c : Nat) (bs : List Int) (w : World) (hl : bs.length = n) (hn : n ≤ 140737488351232) (hr : RdI w w.heap.size .u8 A bs) (hnil : A = none → c = 0) :
    Calls Try.prog 42 #[.slice A n c] w fun e w' => ∃ v, e = .returned v ∧ OwnB w w' (encU n ++ bs) v := by
  obtain ⟨i0, hi, hz0, hz1, hz2⟩ := info_parts infoB
  have hu := uint_any n w (by omega)
  have hlen : (encU n).length ≤ 10 := encU_len 9 (by have : (18446744073709551616 : Nat) < 128 ^ (9 + 1) := by decide
                                                     omega)
  have hpos := encU_pos n
  generalize encU n = en at hu hlen hpos ⊢
  have HL := Lib.hid hl
  have HR := Lib.hid hr
  clear hl hr
  go_enter Try.func42, Try.ntmps42
  go_wp2_with fail
  refine hu.mono ?_
  clear hu
  rintro e w1 ⟨v, rfl, hown, hB⟩
  obtain ⟨g, cc, rfl, hg1, hg2⟩ := own_form hown hpos
  rcases A with _ | ad
  · have h0 : bs = [] := by
      rcases bs with _ | ⟨b, bs⟩
      · rfl
      · obtain ⟨_, e, _⟩ := HR.out 0 (by simp)
        cases e
    subst h0
    obtain rfl : n = 0 := by rw [← HL.out]; rfl
    obtain rfl := hnil rfl
    go_wp2_with (at_builtin; go_must (refine wpList_append_own_none rfl _ _ 24 rfl w.heap.size 5 i0 1 Try.underlying24 hi _ _ _ rfl hown rfl ?_))
    go_ret
    refine ⟨_, rfl, ?_, hB⟩
    simpa using hown
  · have hnews := (HR.out.below hB).news n
    rw [List.take_of_length_le (by rw [HL.out]; exact Nat.le_refl _)] at hnews
    have hnl : (bs.map (Value.int .u8)).length = n * 1 := by rw [List.length_map, HL.out]; omega
    have HN := Lib.hid hnews
    have HNL := Lib.hid hnl
    clear hnews hnl
    have hsz := hB.size
    go_wp2_with (at_builtin; refine wpList_append_own _ rfl _ _ 24 rfl w.heap.size 5 i0 (.int .u8 0) 1 1 Try.underlying24 hi hz0 hz1 hz2 rfl (by decide) _ _ _ rfl hown ad n c (bs.map (Value.int .u8)) rfl HNL.out HN.out (one_cells _ _) (by unfold maxLen; omega) (by omega) hsz ?_; intro v' w2 hown' hgrow _)
    go_ret
    refine ⟨v', rfl, ?_, hB.trans (own_below0 hsz hown hgrow)⟩
    rw [List.map_append, List.length_append, HL.out]
    exact hown'

theorem encL_snoc (zs : List Int) (z : Int) : encL (zs ++ [z]) = encL zs ++ encU (zig z) := by simp [encL]
theorem encL_len : ∀ (zs : List Int), (∀ z ∈ zs, -9223372036854775808 ≤ z ∧ z ≤ 9223372036854775807) → (encL zs).length ≤ 10 * zs.length
  | [], _ => by simp [encL]
  | z :: zs, h => by
    have h1 := encL_len zs (fun x hx => h x (by simp [hx]))
    have h2 := encU_len 9 (n := zig z) (by have := zig_lt (h z (by simp)); have : (18446744073709551616 : Nat) < 128 ^ (9 + 1) := by decide
                                           omega)
    have e : encL (z :: zs) = encU (zig z) ++ encL zs := by simp [encL]
    rw [e, List.length_append, List.length_cons]
    omega

set_option maxHeartbeats 1000000 in
theorem enci_any (A : Option Addr) (n c : Nat) (zs : List Int) (w : World) (hl : zs.length = n) (hn : n ≤ 1048576) (hz : ∀ z ∈ zs, -9223372036854775808 ≤ z ∧ z ≤ 9223372036854775807) (hr : RdI w w.heap.size .i64 A zs) :
    Calls Try.prog 43 #[.slice A n c] w fun e w' => ∃ v, e = .returned v ∧ OwnB w w' (encU n ++ encL zs) v := by
  obtain ⟨i0, hi, hz0, hz1, hz2⟩ := info_parts infoB
  have hu := uint_any n w (by omega)
  have hlen : (encU n).length ≤ 10 := encU_len 9 (by have : (18446744073709551616 : Nat) < 128 ^ (9 + 1) := by decide
                                                     omega)
  have hlL := encL_len zs hz
  rw [hl] at hlL
  generalize encU n = en at hu hlen ⊢
  have HL := Lib.hid hl
  have HR := Lib.hid hr
  have HZ := Lib.hid hz
  have HLL : ∀ k, k ≤ n → (encL (zs.take k)).length ≤ 10 * k := fun k hk => by
    have := encL_len (zs.take k) (fun z h => hz z (List.mem_of_mem_take h))
    rw [List.length_take] at this
    omega
  have HLT := Lib.hid HLL
  clear hl hr hz HLL
  go_enter Try.func43, Try.ntmps43
  go_wp2_with fail
  refine hu.mono ?_
  clear hu
  rintro e w1 ⟨v, rfl, hown, hB⟩
  have HO := Lib.hid hown
  clear hown
  go_wp2_with fail
  go_loopw [3, 4] (fun u i wr => ∃ k : Nat, k ≤ n ∧ i = .int .i64 k ∧ wr.ownsRow w.heap.size 5 1 u (en ++ encL (zs.take k)).length ((en ++ encL (zs.take k)).map (Value.int .u8)) ∧ Below w.heap.size w wr) (fun _ i _ => n - (intOf i).toNat)
  case atStart => exact ⟨0, by omega, rfl, by simpa [encL] using HO.out, hB⟩
  case round =>
    obtain ⟨k, hk, rfl, hown, hBk⟩ := hrel
    have hlk := HLT.out k hk
    have HO2 := Lib.hid hown
    clear hown HO
    have hsz := hBk.size
    by_cases hlt : k < n
    · have hi' : k < zs.length := by rw [HL.out]; exact hlt
      obtain ⟨ad, rfl, _, hx⟩ := HR.out.below hBk k hi'
      have gz : zs[k]? = some (zs[k]?.getD 0) := by rw [List.getElem?_eq_getElem hi']; rfl
      have hzz := HZ.out (zs[k]?.getD 0) (by rw [List.getElem?_eq_getElem hi']; exact List.getElem_mem _)
      generalize zs[k]?.getD 0 = z at hx gz hzz
      have GZ := Lib.hid gz
      have hcall := int_any z
      have hll : (encU (zig z)).length ≤ 10 := encU_len 9 (by have := zig_lt hzz; have : (18446744073709551616 : Nat) < 128 ^ (9 + 1) := by decide
                                                              omega)
      have hpp := encU_pos (zig z)
      generalize hez : encU (zig z) = ez at hcall hll hpp
      have HEZ := Lib.hid hez
      have HZZ := Lib.hid hzz
      clear gz hez hi' hzz
      go_wp2_with fail
      refine (hcall _ HZZ.out).mono ?_
      clear hcall
      rintro e w2 ⟨v2, rfl, hown2, hB2⟩
      obtain ⟨g2, c2, rfl, hg1, hg2⟩ := own_form hown2 hpp
      have hnews := (own_RdI hown2).news ez.length
      rw [List.take_of_length_le (Nat.le_refl _)] at hnews
      have hown := own_kept_below HO2.out hB2
      have HN := Lib.hid hnews
      clear hnews hown2
      have hsz2 := (hBk.trans (hB2.mono hsz)).size
      have hpl : (en ++ encL (zs.take k)).length ≤ 10 + 10 * k := by rw [List.length_append]; omega
      generalize hpre : en ++ encL (zs.take k) = pre at hown hpl
      have HPRE := Lib.hid hpre
      clear hpre HO2 hlk
      go_wp2_with (at_builtin; refine wpList_append_own _ rfl _ _ 24 rfl w.heap.size 5 i0 (.int .u8 0) 1 1 Try.underlying24 hi hz0 hz1 hz2 rfl (by decide) _ _ _ rfl hown ⟨g2, 0, none⟩ ez.length c2 (ez.map (Value.int .u8)) rfl (by rw [List.length_map, Nat.mul_one]) HN.out (one_cells _ _) (by unfold maxLen; omega) (by omega) hsz2 ?_; intro v' w3 hown' hgrow _)
      refine ⟨⟨k + 1, by omega, by go_num, ?_, (hBk.trans (hB2.mono hsz)).trans (own_below0 hsz2 hown hgrow)⟩, by simp [intOf]; omega⟩
      have e1 : en ++ encL (zs.take (k + 1)) = pre ++ ez := by
        have h1 := List.take_add_one (l := zs) (i := k)
        rw [GZ.out] at h1
        rw [h1]
        show en ++ encL (zs.take k ++ [z]) = _
        rw [encL_snoc, ← List.append_assoc, HPRE.out, HEZ.out]
      rw [e1, List.length_append, List.map_append]
      exact hown'
    · obtain rfl : k = n := by omega
      go_wp2
      go_ret
      refine ⟨_, rfl, ?_, hBk⟩
      have h2 := HO2.out
      rw [List.take_of_length_le (by rw [HL.out]; exact Nat.le_refl _)] at h2
      exact h2

end W
end Go.Proofs.Ytdfokmhpnniphaa
