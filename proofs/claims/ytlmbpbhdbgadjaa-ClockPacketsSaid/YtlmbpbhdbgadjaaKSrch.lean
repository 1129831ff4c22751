/-
  sort.Search with a closure that makes new blocks at most; the segment of a tick; the offset of a segment.
-/
import Derived.Test.YtlmbpbhdbgadjaaKRef2
import Derived.Test.YtlmbpbhdbgadjaaKOpen
import Derived.Deep.LoopGhost
import Derived.Shelf.Abstract
namespace Go.Proofs.Ytlmbpbhdbgadjaa
open Go.RowKit
namespace K
open H
set_option linter.unusedVariables false
set_option maxRecDepth 100000
set_option maxHeartbeats 2000000 in
theorem search_any (g : Nat) (cb : Array Value) (n k : Nat) (p : Nat → Bool) (w : World) (eg : ∀ args w, (callFunc g args).run Try.prog w = .ok (.enter g args) w) (hn : n < 4611686018427387904)
    (hf : ∀ W, Below w.heap.size w W → ∀ i, i < n → Calls Try.prog g (#[.int .i64 (i : Nat)] ++ cb) W fun e w' => e = .returned (.bool (p i)) ∧ Below W.heap.size W w')
    (hk : k ≤ n) (h0 : ∀ i, i < k → p i = false) (h1 : ∀ i, k ≤ i → i < n → p i = true) :
    Calls Try.prog 60 #[.int .i64 n, .func (.func g) #[] cb] w fun e w' => e = .returned (.int .i64 (k : Nat)) ∧ Below w.heap.size w w' := by
  have HF := Lib.hid hf
  have H0 := Lib.hid h0
  have H1 := Lib.hid h1
  clear hf h0 h1
  go_enter Try.func60, Try.ntmps60
  go_wp2_with fail
  go_loopg [5, 6] n (fun kx s5 s6 wr => ∃ lo hi : Nat, s5 = .int .i64 lo ∧ s6 = .int .i64 hi ∧ lo ≤ k ∧ k ≤ hi ∧ hi ≤ n ∧ hi - lo ≤ kx ∧ Hid (Below w.heap.size w wr))
  case atStart => exact ⟨0, n, rfl, rfl, Nat.zero_le _, hk, Nat.le_refl _, by omega, Lib.hid (Below.refl _ w)⟩
  case round =>
    obtain ⟨lo, hi, rfl, rfl, hlk, hkh, hhn, hg, HB⟩ := hrel
    by_cases hlt : lo < hi
    · have hc := HF.out wr HB.out ((lo + hi) / 2) (by omega)
      have hm : (((lo + hi) / 2 : Nat) : Int) = ((lo : Int) + (hi : Int)) / 2 := by omega
      rw [hm] at hc
      by_cases hm2 : (lo + hi) / 2 < k
      · rw [H0.out _ hm2] at hc
        have HC := Lib.hid hc
        clear hc
        go_wp2_with (go_at_fn g; refine HC.out.mono ?_; rintro e w2 ⟨rfl, hB2⟩)
        go_roundg (hi - ((lo + hi) / 2 + 1))
        case measure => omega
        case rel => exact ⟨(lo + hi) / 2 + 1, hi, by rw [← hm]; rfl, rfl, by omega, hkh, hhn, Nat.le_refl _, Lib.hid (HB.out.trans (hB2.mono HB.out.size))⟩
      · rw [H1.out _ (by omega) (by omega)] at hc
        have HC := Lib.hid hc
        clear hc
        go_wp2_with (go_at_fn g; refine HC.out.mono ?_; rintro e w2 ⟨rfl, hB2⟩)
        go_roundg ((lo + hi) / 2 - lo)
        case measure => omega
        case rel => exact ⟨lo, (lo + hi) / 2, rfl, by rw [← hm], hlk, by omega, by omega, Nat.le_refl _, Lib.hid (HB.out.trans (hB2.mono HB.out.size))⟩
    · obtain rfl : hi = lo := by omega
      obtain rfl : k = hi := by omega
      go_wp2_with fail
      go_ret
      exact ⟨rfl, HB.out⟩
end K
end Go.Proofs.Ytlmbpbhdbgadjaa
