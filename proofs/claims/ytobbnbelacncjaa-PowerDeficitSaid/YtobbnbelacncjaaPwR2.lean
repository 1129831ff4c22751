/-
  perigeeref10: Reserve.
-/
import Derived.Test.YtobbnbelacncjaaPwR1
namespace Go.Proofs.Ytobbnbelacncjaa
open Go.RowKit
namespace Pw
open H
set_option linter.unusedVariables false
set_option linter.unusedSimpArgs false
set_option maxRecDepth 100000
set_option maxHeartbeats 4000000 in
theorem rreserve_any (T : List Q.Wn) (A : Option Addr) (cap B : Nat) (a tick e sun : Int) (w : World) (hB : B ≤ w.heap.size) (hlen : T.length ≤ 1000) (hT : ∀ x ∈ T, x.un ≤ 1000000) (ht : 0 ≤ tick ∧ tick ≤ 1000001) (he : 0 ≤ e ∧ e ≤ 2147483647) (hs : 0 ≤ sun ∧ sun ≤ 2147483647) (hR : Q.RdsWn w B A T) :
    Calls Try.prog 25 #[.slice A T.length cap, .int .i64 a, .int .i64 tick, .int .i64 e, .int .i64 sun] w fun o w' => o = .returned (.int .i64 (nd T a e sun (endT T 0 - tick).toNat)) ∧ Below w.heap.size w w' := by
  have HG0 : Hid (∀ t W, Below w.heap.size w W → Calls Try.prog 44 #[.slice A T.length cap, .int .i64 a, .int .i64 t, .int .i64 sun] W fun e w' => e = .returned (.int .i64 (gn T a t sun)) ∧ Below W.heap.size W w') := Lib.hid (fun t W hW => rgain_any T A cap B a t sun W (Nat.le_trans hB hW.size) (by omega) (hR.below (hW.mono hB)))
  have HE := Lib.hid (rend_any T A cap B w hB (by omega) hR)
  have hen := endT_bd hT (n := 0) (by omega)
  have HBD := Lib.hid (fun n => nd_bd T a he hs n)
  have HGB := Lib.hid (fun t => gn_bd T a t hs)
  have HST : Hid (∀ n, nd T a e sun (n + 1) = max 0 (nd T a e sun n + e - gn T a (endT T 0 - 1 - n) sun)) := Lib.hid (fun n => rfl)
  have H0 : Hid (nd T a e sun 0 = 0) := Lib.hid rfl
  clear hR
  generalize T.length = len at *
  generalize endT T 0 = en at *
  generalize hM : (en - tick).toNat = M at *
  have HM := Lib.hid hM
  generalize nd T a e sun = F at *
  clear hM
  go_enter Try.func25, Try.ntmps25
  go_wp2_with (go_at_call 27; refine HE.out.mono ?_; rintro o w3 ⟨rfl, hB3⟩; have HB3 := Lib.hid hB3; clear hB3)
  go_loopg [11, 12] M (fun g s i wr => ∃ n : Nat, n + g = M ∧ i = .int .i64 (en - 1 - (n : Int)) ∧ s = .int .i64 (F n) ∧ Below w.heap.size w wr)
  case atStart => exact ⟨0, Nat.zero_add _, by simp, by rw [H0.out], HB3.out⟩
  case round =>
    obtain ⟨n, hg, rfl, rfl, hB2⟩ := hrel
    have BEL := Lib.hid hB2
    have HG := Lib.hid hg
    have hbd := HBD.out n
    have hnm : n ≤ M := by omega
    have hm1 := HM.out
    have hn1 : (n : Int) ≤ 1000001 := by omega
    have hmul : (2147483647 : Int) * n ≤ 2147483647 * 1000001 := by omega
    clear hg hB2
    by_cases hlt : n < M
    · have HLT := Lib.hid hlt
      have hki : tick ≤ en - 1 - (n : Int) := by omega
      have HGC := Lib.hid (HG0.out (en - 1 - (n : Int)) wr BEL.out)
      have hgb := HGB.out (en - 1 - (n : Int))
      have HSX := Lib.hid (HST.out n)
      clear hlt hm1
      generalize gn T a (en - 1 - (n : Int)) sun = g0 at *
      generalize F n = fn at *
      by_cases hmx : 0 < fn + e - g0
      · have HSY : Hid (F (n + 1) = fn + e - g0) := Lib.hid (by rw [HSX.out]; omega)
        go_wp2_with (go_at_call 44; refine HGC.out.mono ?_; rintro o w4 ⟨rfl, hB4⟩; have HB4 := Lib.hid hB4; clear hB4)
        go_roundg (gk - 1)
        case measure => have := HG.out; have := HLT.out; omega
        case rel => exact ⟨n + 1, by have := HG.out; have := HLT.out; omega, by simp; omega, by rw [HSY.out], BEL.out.trans (HB4.out.mono BEL.out.size)⟩
      · have HSY : Hid (F (n + 1) = 0) := Lib.hid (by rw [HSX.out]; omega)
        go_wp2_with (go_at_call 44; refine HGC.out.mono ?_; rintro o w4 ⟨rfl, hB4⟩; have HB4 := Lib.hid hB4; clear hB4)
        go_roundg (gk - 1)
        case measure => have := HG.out; have := HLT.out; omega
        case rel => exact ⟨n + 1, by have := HG.out; have := HLT.out; omega, by simp; omega, by rw [HSY.out], BEL.out.trans (HB4.out.mono BEL.out.size)⟩
    · obtain rfl : n = M := by omega
      have hki : ¬ tick ≤ en - 1 - (n : Int) := by omega
      go_wp2_with fail
      go_ret
      exact ⟨rfl, BEL.out⟩
end Pw
end Go.Proofs.Ytobbnbelacncjaa
