/-
  Mathematics of EccWire: code words, each with at most one bit inverted, written one after the other.
-/
import Derived.Test.YtbhefdincmfmjaaDoorELaw
import Derived.Test.YtbhefdincmfmjaaDoorAround
import Derived.Test.YtbhefdincmfmjaaDoorVWr
namespace Go.Proofs.YtbhefdincmfmjaaDoor
open Go.RowKit
namespace E
set_option linter.unusedVariables false
/-- Word k. -/
def wk (z : List Int) (k : Nat) : Nat := (z[k]?.getD 0).toNat
/-- Code word k, with a bit inverted if there is a number for it. -/
def cw (z0 z1 : List Int) (k : Nat) : Nat :=
  if k < z1.length then enc (wk z0 k) ^^^ 2 ^ (H.around (z1[k]?.getD 0) 39).toNat else enc (wk z0 k)
theorem cw_lt {z0 z1 : List Int} {k : Nat} (h : wk z0 k < 4294967296) : cw z0 z1 k < 2 ^ 39 := by
  have h1 := (enc_ok h).lt
  unfold cw
  split
  · have := H.around_lt (z1[k]?.getD 0) (m := 39) (by decide)
    exact Nat.xor_lt_two_pow h1 (Nat.pow_lt_pow_right (by omega) (by omega))
  · exact h1
theorem cw_dec {z0 z1 : List Int} {k : Nat} (h : wk z0 k < 4294967296) : dec (cw z0 z1 k) = (wk z0 k, if k < z1.length then 1 else 0) := by
  unfold cw
  have := H.around_lt (z1[k]?.getD 0) (m := 39) (by decide)
  split
  · exact dec_one (enc_ok h) (by omega)
  · exact dec_enc (enc_ok h)
/-- The encodings of the first k numbers, and of m numbers from k on. -/
def wb (f : Nat → Nat) : Nat → List Int
  | 0 => []
  | k + 1 => wb f k ++ W.encU (f k)
def tl (f : Nat → Nat) (k : Nat) : Nat → List Int
  | 0 => []
  | m + 1 => W.encU (f k) ++ tl f (k + 1) m
theorem tl_snoc (f : Nat → Nat) : ∀ (m k : Nat), tl f k (m + 1) = tl f k m ++ W.encU (f (k + m))
  | 0, k => by simp [tl]
  | m + 1, k => by
    have ih := tl_snoc f m (k + 1)
    rw [tl, ih, tl, List.append_assoc, show k + 1 + m = k + (m + 1) by omega]
theorem wb_tl (f : Nat → Nat) : ∀ n, wb f n = tl f 0 n
  | 0 => rfl
  | n + 1 => by rw [wb, wb_tl f n, tl_snoc, Nat.zero_add]
theorem wb_len (f : Nat → Nat) (hf : ∀ k, f k < 18446744073709551616) : ∀ n, (wb f n).length ≤ 10 * n
  | 0 => Nat.le_refl _
  | n + 1 => by
    have ih := wb_len f hf n
    have h := W.encU_len 9 (n := f n) (Nat.lt_of_lt_of_le (hf n) (by decide))
    rw [wb, List.length_append]
    omega
theorem wb_byt (f : Nat → Nat) : ∀ n, H.Byt (wb f n)
  | 0 => fun x hx => by cases hx
  | n + 1 => fun x hx => by
    rcases List.mem_append.1 hx with h | h
    · exact wb_byt f n x h
    · exact W.encU_byt _ x h
theorem rU_tl {f : Nat → Nat} {k m : Nat} (hf : f k < 18446744073709551616) : W.rU (tl f k (m + 1), 0) = ((tl f (k + 1) m, 0), f k) := W.rU_ok (W.rd_enc0 hf _)
end E
end Go.Proofs.YtbhefdincmfmjaaDoor
