/-
  The specification's own functions: the words of a byte slice.
-/
import Derived.Test.YtcgppbbpdnobfaaHTag
namespace Go.Proofs.Ytcgppbbpdnobfaa
open Go.RowKit Go.Shelf
namespace H

theorem infoU : (Try.prog.info? 23).map (fun i => (i.zero, i.size, i.bytes)) = some (some (.int .u64 0), 1, 8) := by kernel_rfl

theorem drop_one {g : List Int} (hg : Byt g) (hl : g.length ≤ 8) (j : Nat) (hj : j < g.length) (y : Int) (hy : g[j] = y) :
    IntKind.u64.wrap (IntKind.u64.wrap (256 * le8 (g.drop (j + 1))) + IntKind.u64.wrap y) = le8 (g.drop j) := by
  rw [List.drop_eq_getElem_cons hj, le8, hy, IntKind.wrap_u64, IntKind.wrap_u64, IntKind.wrap_u64]
  have h1 := hg y (by rw [← hy]; exact List.getElem_mem _)
  have h2 := le8_range (g := g.drop (j + 1)) (fun b hb => hg b (List.mem_of_mem_drop hb))
  have h3 : (g.drop (j + 1)).length ≤ 7 := by rw [List.length_drop]; omega
  have h4 : (256 : Int) ^ (g.drop (j + 1)).length ≤ 256 ^ 7 := by
    have e : ((256 ^ (g.drop (j + 1)).length : Nat) : Int) ≤ ((256 ^ 7 : Nat) : Int) := by
      have := Nat.pow_le_pow_right (n := 256) (by omega) h3
      omega
    simpa using e
  have h5 : (256 : Int) ^ 7 = 72057594037927936 := by decide
  omega

theorem grp_get (bs : List Int) (k m : Nat) (hm : m < (grp bs k).length) : (grp bs k)[m] = bs[8 * k + m]?.getD 0 := by
  have h := grp_length bs k
  rw [List.getElem?_eq_getElem (by omega)]
  simp [grp]

set_option maxHeartbeats 1000000 in
theorem rwords_any (A : Option Addr) (len cap : Nat) (bs : List Int) (w : World) (hb : Byt bs) (hl : bs.length = len) (hlen : len ≤ 140737488351232) (hr : RdI w w.heap.size .u8 A bs) :
    Calls Try.prog 26 #[.slice A len cap] w fun e w' => ∃ v, e = .returned v ∧ w'.ownsRow w.heap.size 23 1 v (nw len) ((words bs).map (Value.int .u64)) ∧ Below w.heap.size w w' := by
  obtain ⟨i0, hi, hz0, hz1, hz2⟩ := info_parts infoU
  have HL := Lib.hid hl
  have HR := Lib.hid hr
  have HB := Lib.hid hb
  clear hl hr hb
  go_enter Try.func26, Try.ntmps26
  go_wp2
  go_loopw [3, 4] (fun v i wr => ∃ k : Nat, 8 * k ≤ len + 7 ∧ i = .int .i64 (8 * (k : Int)) ∧ wr.ownsRow w.heap.size 23 1 v k ((upto bs k).map (Value.int .u64)) ∧ Below w.heap.size w wr) (fun _ i _ => len - (intOf i).toNat)
  case atStart => exact ⟨0, by omega, rfl, World.ownsRow_nil _ _ _ _, Below.refl _ _⟩
  case round =>
    obtain ⟨k, hk, rfl, hown, hB⟩ := hrel
    by_cases hlt : 8 * k < len
    · obtain ⟨wo, rfl⟩ : ∃ wo : World, wo = wr := ⟨_, rfl⟩
      have hlg : (grp bs k).length = min 8 (len - 8 * k) := by rw [grp_length, HL.out]
      have HG := Lib.hid hlg
      clear hlg
      have HO := Lib.hid hown
      clear hown
      go_wp2
      all_goals
        go_loop [5, 6] (fun x i => ∃ j : Nat, j ≤ 8 ∧ 8 * k + j ≤ len ∧ i = .int .i64 (8 * (k : Int) + j - 1) ∧ x = .int .u64 (le8 ((grp bs k).drop j))) (fun _ i => (intOf i + 1).toNat)
        case atStart =>
          exact ⟨min 8 (len - 8 * k), by omega, by omega, congrArg (Value.int .i64) (by omega), by rw [List.drop_of_length_le (by rw [HG.out]; exact Nat.le_refl _)]; rfl⟩
        case round =>
          obtain ⟨j, hj8, hjl, rfl, rfl⟩ := hrel
          generalize hX : le8 ((grp bs k).drop j) = x
          have HX := Lib.hid hX
          clear hX
          cases j with
          | succ m =>
            have e0 : (8 * (k : Int) + ((m + 1 : Nat) : Int) - 1) = 8 * (k : Int) + m := by omega
            rw [e0]
            clear e0
            obtain ⟨ad, rfl, hblk, hx⟩ := HR.out.below hB (8 * k + m) (by rw [HL.out]; omega)
            generalize hz : bs[8 * k + m]?.getD 0 = y at hx
            have HZ := Lib.hid hz
            clear hz
            go_wp2
            go_round
            case rel =>
              have hm : m < (grp bs k).length := by rw [HG.out]; omega
              refine ⟨m, by omega, by omega, rfl, ?_⟩
              rw [← HX.out]
              exact congrArg (Value.int .u64) (drop_one (grp_byt HB.out k) (by rw [HG.out]; omega) m hm y (by rw [grp_get _ _ _ hm]; exact HZ.out))
            case measure => simp [intOf]; omega
          | zero =>
            have hnw : k * 8 ≤ len + 7 := by omega
            have hown := HO.out
            go_wp2_with (at_builtin; refine wpList_append_own _ rfl _ _ 48 rfl w.heap.size 23 i0 (.int .u64 0) 1 8 Try.underlying48 hi hz0 hz1 hz2 rfl (by decide) _ _ _ rfl (hown.alloc _) ⟨wo.heap.size, 0, none⟩ 1 1 [.int .u64 x] rfl rfl (cell_one_new _ _ _) (by simp [Value.oneCell']) (by unfold maxLen; omega) (by omega) (by have := hB.size; simp; omega) ?_; intro v' w1 hown' hgrow _)
            refine ⟨⟨k + 1, by omega, congrArg (Value.int .i64) (by omega), ?_, hB.trans (own_below hB.size hown hgrow)⟩, by simp [intOf]; omega⟩
            rw [upto_succ]
            have e : le8 (grp bs k) = x := HX.out
            rw [e]
            simpa using hown'
    · go_wp2
      go_ret
      obtain rfl : k = nw len := by unfold nw; omega
      refine ⟨u3, rfl, ?_, hB⟩
      have e := upto_all bs
      rw [HL.out] at e
      rw [← e]
      exact hown

end H
end Go.Proofs.Ytcgppbbpdnobfaa
