/-
  Contracts of the functions of package hash (and of its specification) that only compute: mixing, Step, a word of a string or slice.
-/
import Derived.Test.YtcgppbbpdnobfaaRows
import Derived.Test.YtcgppbbpdnobfaaHMath
import Derived.WalkKit
import Derived.WalkSpells
import Derived.WalkLawsBesides
import Derived.Outline
import Derived.Lib.Hide
namespace Go.Proofs.Ytcgppbbpdnobfaa
open Go.RowKit
namespace H

theorem bits_xor_toNat (x y : Int) : bits BinOp.xor IntKind.u64 x y = (((BitVec.ofInt 64 x ^^^ BitVec.ofInt 64 y).toNat : Nat) : Int) := by
  have h := (BitVec.ofInt 64 x ^^^ BitVec.ofInt 64 y).isLt
  show IntKind.u64.wrap _ = _
  rw [IntKind.wrap_u64]
  show (((BitVec.ofInt 64 x ^^^ BitVec.ofInt 64 y).toNat : Nat) : Int) % _ = _
  omega

theorem wrap_mul (X : BitVec 64) : IntKind.u64.wrap ((X.toNat : Int) * 15485907386658061715) = (((X * 0xD6E8FEB86659FD93#64).toNat : Nat) : Int) := by
  rw [IntKind.wrap_u64, BitVec.toNat_mul]
  simp

theorem shift_div (M : BitVec 64) : ((M.toNat : Int) / (4294967296 : Int)) = (((M >>> 32).toNat : Nat) : Int) := by
  simp [Nat.shiftRight_eq_div_pow]

theorem mix_form (a b : Int) : bits BinOp.xor IntKind.u64 (IntKind.u64.wrap (bits BinOp.xor IntKind.u64 a b * 15485907386658061715)) (IntKind.u64.wrap (bits BinOp.xor IntKind.u64 a b * 15485907386658061715) / 4294967296) = mixI a b := by
  rw [bits_xor_toNat a b, wrap_mul, shift_div, bits_xor_toNat, ofInt_nat, ofInt_nat]
  rfl

theorem mix_form' (a b : Int) : bits BinOp.xor IntKind.u64 (IntKind.u64.wrap (bits BinOp.xor IntKind.u64 a b * 15485907386658061715)) (IntKind.u64.wrap ((IntKind.u64.wrap (bits BinOp.xor IntKind.u64 a b * 15485907386658061715)).tdiv 4294967296)) = mixI a b := by
  rw [← mix_form, bits_xor_toNat a b, wrap_mul, Int.tdiv_eq_ediv_of_nonneg (by omega), IntKind.wrap_u64]
  congr 1
  have := ((BitVec.ofInt 64 a ^^^ BitVec.ofInt 64 b) * 0xD6E8FEB86659FD93#64).isLt
  omega

theorem ret_int {k : IntKind} {a b : Int} (h : a = b) : Ending.returned (.int k a) = .returned (.int k b) := by rw [h]

set_option maxHeartbeats 400000 in
theorem mix_any (a b : Int) (w : World) :
    Calls Try.prog 25 #[.int .u64 a, .int .u64 b] w fun e w' => e = .returned (.int .u64 (mixI a b)) ∧ w = w' := by
  go_enter Try.func25, Try.ntmps25
  go_wp2
  go_ret
  exact ⟨ret_int (mix_form a b), rfl⟩

set_option maxHeartbeats 400000 in
theorem rmix_any (a b : Int) (w : World) :
    Calls Try.prog 27 #[.int .u64 a, .int .u64 b] w fun e w' => e = .returned (.int .u64 (mixI a b)) ∧ w = w' := by
  go_enter Try.func27, Try.ntmps27
  go_wp2
  go_ret
  exact ⟨ret_int (mix_form' a b), rfl⟩

/-- The constant of Step. -/
def gold : Int := 11400714819323198485

set_option maxHeartbeats 400000 in
theorem step_any (a : Int) (w : World) :
    Calls Try.prog 18 #[.int .u64 a] w fun e w' => e = .returned (.int .u64 (mixI a gold)) ∧ w = w' := by
  go_enter Try.func18, Try.ntmps18
  go_wp2_with (go_at_call 25; refine (mix_any _ _ _).mono ?_; rintro e w' ⟨rfl, rfl⟩)
  go_ret
  exact ⟨rfl, rfl⟩

set_option maxHeartbeats 400000 in
theorem rstep_any (a : Int) (w : World) :
    Calls Try.prog 19 #[.int .u64 a] w fun e w' => e = .returned (.int .u64 (mixI a gold)) ∧ w = w' := by
  go_enter Try.func19, Try.ntmps19
  go_wp2_with (go_at_call 27; refine (rmix_any _ _ _).mono ?_; rintro e w' ⟨rfl, rfl⟩)
  go_ret
  exact ⟨rfl, rfl⟩

end H
end Go.Proofs.Ytcgppbbpdnobfaa
