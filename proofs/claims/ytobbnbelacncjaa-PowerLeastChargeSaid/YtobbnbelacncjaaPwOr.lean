/-
  cmp.Or over integers.
-/
import Derived.Test.YtobbnbelacncjaaPwK
namespace Go.Proofs.Ytobbnbelacncjaa
open Go.RowKit
namespace Pw
open H
set_option linter.unusedVariables false
set_option linter.unusedSimpArgs false
set_option maxRecDepth 100000
/-- The first one that is not 0. -/
def orI : List Int → Int
  | [] => 0
  | z :: zs => if z = 0 then orI zs else z
theorem orI_drop {zs : List Int} {k : Nat} {x : Int} (h : zs[k]? = some x) : orI (zs.drop k) = if x = 0 then orI (zs.drop (k + 1)) else x := by
  obtain ⟨hk, rfl⟩ := List.getElem?_eq_some_iff.1 h
  rw [List.drop_eq_getElem_cons hk]
  rfl
set_option maxHeartbeats 2000000 in
theorem or_any (A : Option Addr) (c B : Nat) (zs : List Int) (w : World) (hn : zs.length ≤ 140737488351232) (hr : RdI w B .i64 A zs) :
    Calls Try.prog 74 #[.slice A zs.length c] w fun e w' => e = .returned (.int .i64 (orI zs)) ∧ w' = w := by
  have HR := Lib.hid hr
  clear hr
  have HS := Lib.hid (fun k x (h : zs[k]? = some x) => orI_drop h)
  have HGET := Lib.hid (fun k (hk : k < zs.length) => (⟨zs[k], List.getElem?_eq_getElem hk⟩ : ∃ x, zs[k]? = some x))
  have HE : Hid (orI (zs.drop zs.length) = 0) := Lib.hid (by rw [List.drop_length]; rfl)
  generalize hlen : zs.length = n at *
  have HLN := Lib.hid hlen
  clear hlen
  have H0 : Hid (orI (zs.drop 0) = orI zs) := Lib.hid rfl
  generalize orI zs = res at *
  go_enter Try.func74, Try.ntmps74
  go_wp2_with fail
  go_loopg [8] n (fun g i wr => ∃ k : Nat, k + g = n ∧ i = .int .i64 (k : Nat) ∧ Hid (orI (zs.drop k) = res) ∧ wr = w)
  case atStart => exact ⟨0, Nat.zero_add _, rfl, H0, rfl⟩
  case round =>
    obtain ⟨k, hg, rfl, HT, rfl⟩ := hrel
    have HG := Lib.hid hg
    have hkn : k ≤ n := by omega
    clear hg
    by_cases hlt : k < n
    · have HLT := Lib.hid hlt
      obtain ⟨x, hx⟩ := HGET.out k hlt
      obtain ⟨ad, rfl, _, cx⟩ := HR.out k (by rw [HLN.out]; exact hlt)
      rw [hx] at cx
      dsimp only [Option.getD_some] at cx
      have hst := HS.out k x hx
      have hki : (k : Int) < (n : Int) := by omega
      clear hx hlt
      by_cases hxy : x = 0
      · rw [if_pos hxy] at hst
        have HN := Lib.hid (hst.symm.trans HT.out)
        clear hst
        go_wp2_with fail
        go_roundg (gk - 1)
        case measure => have := HG.out; have := HLT.out; omega
        case rel => exact ⟨k + 1, by have := HG.out; have := HLT.out; omega, by go_num, HN, rfl⟩
      · rw [if_neg hxy] at hst
        have HN := Lib.hid (hst.symm.trans HT.out)
        clear hst
        go_wp2_with fail
        go_ret
        exact ⟨by rw [HN.out]; rfl, rfl⟩
    · obtain rfl : k = n := by omega
      have HD := Lib.hid (HE.out.symm.trans HT.out)
      clear hlt
      go_wp2_with fail
      go_ret
      exact ⟨by rw [← HD.out]; rfl, rfl⟩
def cmpI (x y : Int) : Int := if x < y then -1 else if y < x then 1 else 0
set_option maxHeartbeats 1000000 in
theorem pnan_any (x : Int) (w : World) : Calls Try.prog 86 #[.int .i64 x] w fun e w' => e = .returned (.bool false) ∧ w = w' := by
  go_enter Try.func86, Try.ntmps86
  go_wp2_with fail
  go_ret
  exact ⟨rfl, rfl⟩
set_option maxHeartbeats 2000000 in
theorem pcmpI_any (x y : Int) (w : World) : Calls Try.prog 72 #[.int .i64 x, .int .i64 y] w fun e w' => e = .returned (.int .i64 (cmpI x y)) ∧ w' = w := by
  have HN := Lib.hid (fun z W => pnan_any z W)
  unfold cmpI
  by_cases h1 : x < y
  · go_enter Try.func72, Try.ntmps72
    go_wp2_with (go_at_call 86; refine (HN.out _ _).mono ?_; rintro e w' ⟨rfl, rfl⟩)
    go_ret
    exact ⟨by simp [h1], rfl⟩
  · by_cases h2 : y < x
    · go_enter Try.func72, Try.ntmps72
      go_wp2_with (go_at_call 86; refine (HN.out _ _).mono ?_; rintro e w' ⟨rfl, rfl⟩)
      go_ret
      exact ⟨by simp [h1, h2], rfl⟩
    · go_enter Try.func72, Try.ntmps72
      go_wp2_with (go_at_call 86; refine (HN.out _ _).mono ?_; rintro e w' ⟨rfl, rfl⟩)
      go_ret
      exact ⟨by simp [h1, h2], rfl⟩
end Pw
end Go.Proofs.Ytobbnbelacncjaa
