/-
  The landed Check.
-/
import Derived.Test.YtojflmejkigdiaaQChk
namespace Go.Proofs.Ytojflmejkigdiaa
open Go.RowKit Go.Shelf
namespace Q
open H
set_option linter.unusedVariables false
set_option linter.unusedSimpArgs false
set_option maxRecDepth 100000
/-- What Check finds. -/
def chk (T : List Wn) : Int := if 200 < T.length then 2 else if (T.find? fun x => !fm x).isSome then 5 else if srt T = false then 23 else if ovl T then 23 else 0
set_option maxHeartbeats 4000000 in
theorem pcheck_any (T : List Wn) (A : Option Addr) (cap B : Nat) (w : World) (hB : B ≤ w.heap.size) (hlen : T.length ≤ 140737488351232) (hcap : T.length ≤ cap) (hR : RdsWn w B A T) :
    Calls Try.prog 13 #[.slice A T.length cap] w fun e w' => e = .returned (.int .i64 (chk T)) ∧ Below w.heap.size w w' := by
  unfold chk
  by_cases h200 : 200 < T.length
  · rw [if_pos h200]
    have h2 : (200 : Int) < (T.length : Int) := by omega
    clear hR
    generalize T.length = len at *
    go_enter Try.func13, Try.ntmps13
    go_wp2_with fail
    go_ret
    exact ⟨rfl, Below.refl _ _⟩
  · rw [if_neg h200]
    have h2 : ¬ (200 : Int) < (T.length : Int) := by omega
    have HWH : Hid (∀ W, Calls Try.prog 33 #[.slice A T.length cap, .func (.func 34) #[] #[]] W fun e w' => e = .returned (.func (.func 58) #[] #[bp W.heap.size, bp (W.heap.size + 1)]) ∧ Sb w' W.heap.size (.slice A T.length cap) ∧ Sb w' (W.heap.size + 1) (.func (.func 34) #[] #[]) ∧ Below W.heap.size W w' ∧ w'.heap.size = W.heap.size + 2) := Lib.hid (fun W => where_any A T.length cap _ _ W)
    have HFS : Hid (∀ W, Below w.heap.size w W → ∀ Bt Ba, Sb W Bt (.slice A T.length cap) → Sb W Ba (.func (.func 34) #[] #[]) → Calls Try.prog 32 #[.func (.func 58) #[] #[bp Bt, bp Ba]] W fun e w' => e = .returned (fstV T (fun x => !fm x)) ∧ Below W.heap.size W w') := Lib.hid (fun W hW Bt Ba hT hF =>
      first_any Bt Ba A cap T (fun x => !fm x) 34 _ W (enters_of Try.func34 (by kernel_rfl) rfl) hlen (acc_mal _ T W) hT hF (rds_more (hR.below (hW.mono hB)) (by have := hW.size; omega)))
    have HSO : Hid (∀ W, Below w.heap.size w W → Calls Try.prog 35 #[.slice A T.length cap, .func (.func 36) #[] #[]] W fun e w' => e = .returned (.bool (srt T)) ∧ Below W.heap.size W w') := Lib.hid (fun W hW => psorted_any T A cap B W (Nat.le_trans hB hW.size) hlen (hR.below (hW.mono hB)))
    have HOV : Hid (∀ W, Below w.heap.size w W → Calls Try.prog 37 #[.slice A T.length cap] W fun e w' => e = .returned (.bool (ovl T)) ∧ Below W.heap.size W w') := Lib.hid (fun W hW => povl_any T A cap B W (Nat.le_trans hB hW.size) hlen hcap (hR.below (hW.mono hB)))
    have hval : fstV T (fun x => !fm x) = .tuple #[((T.find? fun x => !fm x).getD zw).v, .bool (T.find? fun x => !fm x).isSome] := rfl
    rw [hval] at HFS
    clear hval hR hlen hcap hB
    generalize (T.find? fun x => !fm x).getD zw = y at *
    generalize (T.find? fun x => !fm x).isSome = r at *
    generalize srt T = s at *
    generalize ovl T = o at *
    generalize T.length = len at *
    clear h200
    cases r with
    | true =>
      rw [if_pos rfl]
      go_enter Try.func13, Try.ntmps13
      go_wp2_with (first
        | (go_at_call 33; refine (HWH.out _).mono ?_; rintro e w6 ⟨rfl, s1, s2, hB6, _⟩; have HC := Lib.hid (HFS.out w6 hB6 _ _ s1 s2))
        | (go_at_call 32; refine HC.out.mono ?_; rintro e w7 ⟨rfl, hB7⟩))
      go_ret
      exact ⟨rfl, (bt (bt hB6 hB7) (bel1 w7 _))⟩
    | false =>
      rw [if_neg (by simp)]
      cases s with
      | false =>
        rw [if_pos rfl]
        go_enter Try.func13, Try.ntmps13
        go_wp2_with (first
          | (go_at_call 33; refine (HWH.out _).mono ?_; rintro e w6 ⟨rfl, s1, s2, hB6, _⟩; have HC := Lib.hid (HFS.out w6 hB6 _ _ s1 s2))
          | (go_at_call 32; refine HC.out.mono ?_; rintro e w7 ⟨rfl, hB7⟩; have HB7 := Lib.hid (bt (bt hB6 hB7) (bel1 w7 (.cells (wcells y) 31))))
          | (go_at_call 35; refine (HSO.out _ HB7.out).mono ?_; rintro e w8 ⟨rfl, hB8⟩))
        go_ret
        exact ⟨rfl, bt HB7.out hB8⟩
      | true =>
        rw [if_neg (by simp)]
        cases o with
        | true =>
          rw [if_pos rfl]
          go_enter Try.func13, Try.ntmps13
          go_wp2_with (first
            | (go_at_call 33; refine (HWH.out _).mono ?_; rintro e w6 ⟨rfl, s1, s2, hB6, _⟩; have HC := Lib.hid (HFS.out w6 hB6 _ _ s1 s2))
            | (go_at_call 32; refine HC.out.mono ?_; rintro e w7 ⟨rfl, hB7⟩; have HB7 := Lib.hid (bt (bt hB6 hB7) (bel1 w7 (.cells (wcells y) 31))))
            | (go_at_call 35; refine (HSO.out _ HB7.out).mono ?_; rintro e w8 ⟨rfl, hB8⟩; have HB8 := Lib.hid (bt HB7.out hB8))
            | (go_at_call 37; refine (HOV.out _ HB8.out).mono ?_; rintro e w9 ⟨rfl, hB9⟩))
          go_ret
          exact ⟨rfl, bt HB8.out hB9⟩
        | false =>
          rw [if_neg (by simp)]
          go_enter Try.func13, Try.ntmps13
          go_wp2_with (first
            | (go_at_call 33; refine (HWH.out _).mono ?_; rintro e w6 ⟨rfl, s1, s2, hB6, _⟩; have HC := Lib.hid (HFS.out w6 hB6 _ _ s1 s2))
            | (go_at_call 32; refine HC.out.mono ?_; rintro e w7 ⟨rfl, hB7⟩; have HB7 := Lib.hid (bt (bt hB6 hB7) (bel1 w7 (.cells (wcells y) 31))))
            | (go_at_call 35; refine (HSO.out _ HB7.out).mono ?_; rintro e w8 ⟨rfl, hB8⟩; have HB8 := Lib.hid (bt HB7.out hB8))
            | (go_at_call 37; refine (HOV.out _ HB8.out).mono ?_; rintro e w9 ⟨rfl, hB9⟩))
          go_ret
          exact ⟨rfl, bt HB8.out hB9⟩
end Q
end Go.Proofs.Ytojflmejkigdiaa
