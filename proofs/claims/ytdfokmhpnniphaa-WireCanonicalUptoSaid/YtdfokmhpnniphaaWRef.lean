/-
  The specification's functions of package wire that only make bytes or compare: their contracts.
-/
import Derived.Test.YtdfokmhpnniphaaRows
import Derived.Test.YtdfokmhpnniphaaWSeq
namespace Go.Proofs.Ytdfokmhpnniphaa
open Go.RowKit
namespace W
open H

theorem infoB : (Try.prog.info? 5).map (fun i => (i.zero, i.size, i.bytes)) = some (some (.int .u8 0), 1, 1) := by kernel_rfl

/-- A new slice of bytes, the call's own. -/
def OwnB (w w' : World) (bs : List Int) (v : Value) : Prop := w'.ownsRow w.heap.size 5 1 v bs.length (bs.map (Value.int .u8)) ∧ Below w.heap.size w w'

set_option maxHeartbeats 1000000 in
theorem uint_any (n : Nat) (w : World) (hn : n < 18446744073709551616) :
    Calls Try.prog 40 #[.int .u64 n] w fun e w' => ∃ v, e = .returned v ∧ OwnB w w' (encU n) v := by
  obtain ⟨i0, hi, hz0, hz1, hz2⟩ := info_parts infoB
  have HN := Lib.hid hn
  clear hn
  go_enter Try.func40, Try.ntmps40
  go_wp2
  go_loopw [0, 3] (fun x v wr => ∃ (m : Nat) (pre : List Int), x = .int .u64 m ∧ m < 18446744073709551616 ∧ encU n = pre ++ encU m ∧ wr.ownsRow w.heap.size 5 1 v pre.length (pre.map (Value.int .u8)) ∧ Below w.heap.size w wr) (fun x _ _ => (intOf x).toNat)
  case atStart => exact ⟨n, [], rfl, HN.out, rfl, World.ownsRow_nil _ _ _ _, Below.refl _ _⟩
  case round =>
    obtain ⟨m, pre, rfl, hm, hp, hown, hB⟩ := hrel
    have hpl : pre.length < 10 := by
      have h1 := encU_len 9 (n := n) (by have := HN.out; have : (18446744073709551616 : Nat) < 128 ^ (9 + 1) := by decide
                                         omega)
      have h2 := encU_pos m
      rw [hp, List.length_append] at h1
      omega
    have HP := Lib.hid hp
    clear hp
    by_cases hlt : m < 128
    · have HM := Lib.hid hm
      clear hm
      go_wp2_with (at_builtin; refine wpList_append_own _ rfl _ _ 24 rfl w.heap.size 5 i0 (.int .u8 0) 1 1 Try.underlying24 hi hz0 hz1 hz2 rfl (by decide) _ _ _ rfl (hown.alloc _) ⟨wr.heap.size, 0, none⟩ 1 1 [.int .u8 m] rfl rfl (cell_one_new _ _ _) (by simp [Value.oneCell']) (by unfold maxLen; omega) (by omega) (by have := hB.size; simp; omega) ?_; intro v' w1 hown' hgrow _)
      go_ret
      refine ⟨v', rfl, ?_, hB.trans (own_below hB.size hown hgrow)⟩
      rw [HP.out, encU_lt hlt]
      simpa using hown'
    · have HM := Lib.hid hm
      clear hm
      go_wp2_with (at_builtin; refine wpList_append_own _ rfl _ _ 24 rfl w.heap.size 5 i0 (.int .u8 0) 1 1 Try.underlying24 hi hz0 hz1 hz2 rfl (by decide) _ _ _ rfl (hown.alloc _) ⟨wr.heap.size, 0, none⟩ 1 1 [.int .u8 ((m : Int) % 128 + 128)] rfl rfl (cell_one_new _ _ _) (by simp [Value.oneCell']) (by unfold maxLen; omega) (by omega) (by have := hB.size; simp; omega) ?_; intro v' w1 hown' hgrow _)
      refine ⟨⟨m / 128, pre ++ [((m % 128 + 128 : Nat) : Int)], congrArg (Value.int .u64) (by rw [IntKind.wrap_u64]; have := HM.out; omega), by have := HM.out; omega, ?_, ?_, hB.trans (own_below hB.size hown hgrow)⟩, by have := HM.out; simp [intOf, IntKind.wrap_u64]; omega⟩
      · rw [HP.out, encU_ge hlt]
        simp
      · simpa using hown'

set_option maxHeartbeats 1000000 in
theorem zig_any (n : Int) (w : World) (hn : -9223372036854775808 ≤ n ∧ n ≤ 9223372036854775807) :
    Calls Try.prog 52 #[.int .i64 n] w fun e w' => e = .returned (.int .u64 (zig n)) ∧ w = w' := by
  obtain ⟨h1, h2⟩ := hn
  by_cases h : 0 ≤ n
  · go_enter Try.func52, Try.ntmps52
    go_wp2
    go_ret
    exact ⟨ret_int (by unfold zig; rw [if_pos h]; omega), rfl⟩
  · go_enter Try.func52, Try.ntmps52
    go_wp2
    go_ret
    exact ⟨ret_int (by unfold zig; rw [if_neg (by omega)]; omega), rfl⟩

set_option maxHeartbeats 1000000 in
theorem zag_any (u : Nat) (w : World) (hu : u < 18446744073709551616) :
    Calls Try.prog 47 #[.int .u64 u] w fun e w' => e = .returned (.int .i64 (zag u)) ∧ w = w' := by
  by_cases h : u % 2 = 0
  · have h' : (((u : Int) % 2) == 0) = true := by simp; omega
    have H0 := Lib.hid h
    clear h
    go_enter Try.func47, Try.ntmps47
    go_wp2
    go_ret
    exact ⟨ret_int (by unfold zag; rw [if_pos H0.out]; omega), rfl⟩
  · have h' : (((u : Int) % 2) == 0) = false := by simp; omega
    have H0 := Lib.hid h
    clear h
    go_enter Try.func47, Try.ntmps47
    go_wp2
    go_ret
    exact ⟨ret_int (by unfold zag; rw [if_neg H0.out]; omega), rfl⟩

end W
end Go.Proofs.Ytdfokmhpnniphaa
