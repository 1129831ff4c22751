/-
  cmp.Or over integers; compare; slices.IsSortedFunc over windows.
-/
import Derived.Test.YtobbnbelacncjaaQV4
namespace Go.Proofs.Ytobbnbelacncjaa
open Go.RowKit
namespace Q
open H
set_option linter.unusedVariables false
set_option linter.unusedSimpArgs false
set_option maxRecDepth 100000
theorem cell_drw {W : World} {a : Addr} {v : Value} (h : W.cell? a = some v) : W.drew.cell? a = some v := h
theorem cell_under_drew {W : World} {a : Addr} {v : Value} (o : Obj) (h : W.cell? a = some v) : (W.alloc o).drew.cell? a = some v := cell_under o h
/-- The first one that is not 0. -/
def orI : List Int → Int
  | [] => 0
  | z :: zs => if z = 0 then orI zs else z
theorem orI_drop {zs : List Int} {k : Nat} {x : Int} (h : zs[k]? = some x) : orI (zs.drop k) = if x = 0 then orI (zs.drop (k + 1)) else x := by
  obtain ⟨hk, rfl⟩ := List.getElem?_eq_some_iff.1 h
  rw [List.drop_eq_getElem_cons hk]
  rfl
set_option maxHeartbeats 2000000 in
theorem or_any (A : Option Addr) (c B : Nat) (zs : List Int) (w : World) (hn : zs.length ≤ 140737488351232) (hr : RdI w B .i64 A zs) :
    Calls Try.prog 74 #[.slice A zs.length c] w fun e w' => e = .returned (.int .i64 (orI zs)) ∧ w' = w := by
  have HR := Lib.hid hr
  clear hr
  have HS := Lib.hid (fun k x (h : zs[k]? = some x) => orI_drop h)
  have HGET := Lib.hid (fun k (hk : k < zs.length) => (⟨zs[k], List.getElem?_eq_getElem hk⟩ : ∃ x, zs[k]? = some x))
  have HE : Hid (orI (zs.drop zs.length) = 0) := Lib.hid (by rw [List.drop_length]; rfl)
  generalize hlen : zs.length = n at *
  have HLN := Lib.hid hlen
  clear hlen
  have H0 : Hid (orI (zs.drop 0) = orI zs) := Lib.hid rfl
  generalize orI zs = res at *
  go_enter Try.func74, Try.ntmps74
  go_wp2_with fail
  go_loopg [8] n (fun g i wr => ∃ k : Nat, k + g = n ∧ i = .int .i64 (k : Nat) ∧ Hid (orI (zs.drop k) = res) ∧ wr = w)
  case atStart => exact ⟨0, Nat.zero_add _, rfl, H0, rfl⟩
  case round =>
    obtain ⟨k, hg, rfl, HT, rfl⟩ := hrel
    have HG := Lib.hid hg
    have hkn : k ≤ n := by omega
    clear hg
    by_cases hlt : k < n
    · have HLT := Lib.hid hlt
      obtain ⟨x, hx⟩ := HGET.out k hlt
      obtain ⟨ad, rfl, _, cx⟩ := HR.out k (by rw [HLN.out]; exact hlt)
      rw [hx] at cx
      dsimp only [Option.getD_some] at cx
      have hst := HS.out k x hx
      have hki : (k : Int) < (n : Int) := by omega
      clear hx hlt
      by_cases hxy : x = 0
      · rw [if_pos hxy] at hst
        have HN := Lib.hid (hst.symm.trans HT.out)
        clear hst
        go_wp2_with fail
        go_roundg (gk - 1)
        case measure => have := HG.out; have := HLT.out; omega
        case rel => exact ⟨k + 1, by have := HG.out; have := HLT.out; omega, by go_num, HN, rfl⟩
      · rw [if_neg hxy] at hst
        have HN := Lib.hid (hst.symm.trans HT.out)
        clear hst
        go_wp2_with fail
        go_ret
        exact ⟨by rw [HN.out]; rfl, rfl⟩
    · obtain rfl : k = n := by omega
      have HD := Lib.hid (HE.out.symm.trans HT.out)
      clear hlt
      go_wp2_with fail
      go_ret
      exact ⟨by rw [← HD.out]; rfl, rfl⟩
/-- The comparison of two windows. -/
def cmpW (v w : Wn) : Int := orI [Lib.compareInt v.fr w.fr, Lib.compareInt v.kind w.kind, Lib.compareInt v.a w.a, Lib.compareInt v.b w.b]
theorem cmp_neg (v w : Wn) : cmpW v w < 0 ↔ bef v w = true := by
  unfold cmpW bef Lib.compareInt orI orI orI orI orI
  simp only [decide_eq_true_eq]
  repeat' split
  all_goals omega
theorem cmp_bd (v w : Wn) : -1 ≤ cmpW v w ∧ cmpW v w ≤ 1 := by
  unfold cmpW Lib.compareInt orI orI orI orI orI
  repeat' split
  all_goals omega
/-- Is it sorted, from the end down to place k? -/
def srt (t : List Wn) : Bool := (List.range (t.length - 1)).all fun i => match t[i + 1]?, t[i]? with | some x, some y => !bef x y | _, _ => true
theorem srt_iff (t : List Wn) : srt t = true ↔ ∀ i x y, t[i + 1]? = some x → t[i]? = some y → bef x y = false := by
  unfold srt
  rw [List.all_eq_true]
  constructor
  · intro h i x y hx hy
    have hi : i < t.length - 1 := by have := (List.getElem?_eq_some_iff.1 hx).1; omega
    have := h i (List.mem_range.2 hi)
    rw [hx, hy] at this
    simpa using this
  · intro h i hi
    cases hx : t[i + 1]? with
    | none => simp
    | some x =>
      cases hy : t[i]? with
      | none => simp
      | some y => simpa using h i x y hx hy
end Q
end Go.Proofs.Ytobbnbelacncjaa
