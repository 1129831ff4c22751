/-
  perigeeref10: Same, MadeBattery.
-/
import Derived.Test.YtobbnbelacncjaaPwR1
import Derived.Test.YtobbnbelacncjaaPwSb
namespace Go.Proofs.Ytobbnbelacncjaa
open Go.RowKit
namespace Pw
open H
set_option linter.unusedVariables false
set_option linter.unusedSimpArgs false
set_option maxRecDepth 100000
theorem take_same {xs bs : List Int} {k : Nat} (h : xs.take k = bs.take k) {x y : Int} (hx : xs[k]? = some x) (hy : bs[k]? = some y) (e : x = y) : xs.take (k + 1) = bs.take (k + 1) := by
  subst e
  rw [List.take_add_one, List.take_add_one, h, hx, hy]
theorem take_diff {xs bs : List Int} {k : Nat} {x y : Int} (hx : xs[k]? = some x) (hy : bs[k]? = some y) (e : ¬ x = y) : xs ≠ bs := by
  rintro rfl
  rw [hx] at hy
  exact e (Option.some.inj hy)

set_option maxHeartbeats 1000000 in
theorem rsame_any (A A' : Option Addr) (c c' : Nat) (xs bs : List Int) (w : World) (hn : xs.length ≤ 140737488351232) (hn' : bs.length ≤ 140737488351232) (hr : RdI w w.heap.size .i64 A xs) (hr' : RdI w w.heap.size .i64 A' bs) :
    Calls Try.prog 22 #[.slice A xs.length c, .slice A' bs.length c'] w fun e w' => e = .returned (.bool (decide (xs = bs))) ∧ Below w.heap.size w w' := by
  have HR := Lib.hid hr
  have HR' := Lib.hid hr'
  clear hr hr'
  by_cases hnn : xs.length = bs.length
  · have HL : Hid (xs.length = xs.length) := Lib.hid rfl
    have HL' := Lib.hid hnn.symm
    rw [← hnn]
    generalize hlen : xs.length = n at *
    have HLN := Lib.hid hlen
    clear hlen hnn
    go_enter Try.func22, Try.ntmps22
    go_wp2_with fail
    go_loopg [5] n (fun g i wr => ∃ k : Nat, k + g = n ∧ i = .int .i64 (k : Nat) ∧ Hid (xs.take k = bs.take k) ∧ Below w.heap.size w wr)
    case atStart => exact ⟨0, Nat.zero_add _, rfl, Lib.hid (by simp), Below.refl _ _⟩
    case round =>
      obtain ⟨k, hg, rfl, HT, hB⟩ := hrel
      have HG := Lib.hid hg
      have HB := Lib.hid hB
      have hkn : k ≤ n := by omega
      clear hg hB
      by_cases hlt : k < n
      · have HLT := Lib.hid hlt
        obtain ⟨ad, rfl, _, hx⟩ := HR.out.below HB.out k (by rw [HLN.out]; exact hlt)
        obtain ⟨bd, rfl, _, hy⟩ := HR'.out.below HB.out k (by rw [HL'.out]; exact hlt)
        have gx : xs[k]? = some (xs[k]?.getD 0) := by rw [List.getElem?_eq_getElem (by rw [HLN.out]; exact hlt)]; rfl
        have gy : bs[k]? = some (bs[k]?.getD 0) := by rw [List.getElem?_eq_getElem (by rw [HL'.out]; exact hlt)]; rfl
        generalize xs[k]?.getD 0 = x at hx gx
        generalize bs[k]?.getD 0 = y at hy gy
        have GX := Lib.hid gx
        have GY := Lib.hid gy
        have hki : (k : Int) < (n : Int) := by omega
        clear gx gy hlt
        by_cases hxy : x = y
        · have HXY := Lib.hid (take_same HT.out GX.out GY.out hxy)
          subst hxy
          go_wp2_with fail
          go_region
          all_goals go_wp2_with fail
          all_goals go_roundg (gk - 1)
          case measure => have := HG.out; have := HLT.out; omega
          case rel => exact ⟨k + 1, by have := HG.out; have := HLT.out; omega, by go_num, HXY, HB.out.drew⟩
        · have HXY := Lib.hid (take_diff GX.out GY.out hxy)
          go_wp2_with fail
          go_region
          all_goals go_wp2_with fail
          all_goals go_ret
          all_goals exact ⟨by rw [decide_eq_false HXY.out]; rfl, HB.out.drew⟩
      · have ht := HT.out
        rw [List.take_of_length_le (by rw [HLN.out]; omega), List.take_of_length_le (by rw [HL'.out]; omega)] at ht
        have HTT := Lib.hid ht
        have hki : ¬ (k : Int) < (n : Int) := by omega
        clear ht hlt
        go_wp2_with fail
        go_ret
        exact ⟨by rw [decide_eq_true HTT.out]; rfl, HB.out⟩
  · have hne : decide (xs = bs) = false := by
      rw [decide_eq_false_iff_not]
      rintro rfl
      exact hnn rfl
    rw [hne]
    clear hne
    generalize xs.length = n at *
    generalize bs.length = n' at *
    have hnn2 : ¬ ((n : Int) = (n' : Int)) := by omega
    clear hnn
    go_enter Try.func22, Try.ntmps22
    go_wp2_with fail
    go_ret
    exact ⟨rfl, Below.refl _ _⟩
/-- A number as a uint64, modulo m. -/
def uz (x : Int) : Int := if x < 0 then x + 18446744073709551616 else x
def md (x m : Int) : Int := uz x % m
theorem uz_wrap {x : Int} (h : I64 x) : IntKind.u64.wrap x = uz x := by
  unfold uz
  by_cases hx : x < 0
  · rw [if_pos hx]
    have h2 := h.1
    simp [IntKind.wrap, IntKind.bits, IntKind.signed]
    omega
  · rw [if_neg hx]
    exact IntWalk.u64_in _ (by have := h.2; omega)
theorem uz_nn {x : Int} (h : I64 x) : 0 ≤ uz x ∧ uz x < 18446744073709551616 := by unfold uz; split <;> omega
theorem uz_mod {x m : Int} (h : I64 x) : (uz x).tmod m = md x m := Int.tmod_eq_emod_of_nonneg (uz_nn h).1
def madeB (b : Bt) (most : Int) : Bt := ⟨md b.cap (most + 1), md b.chg (md b.cap (most + 1) + 1), md b.res (md b.cap (most + 1) + 1)⟩
theorem md_bd (x : Int) {m : Int} (h : 1 ≤ m) : 0 ≤ md x m ∧ md x m < m := ⟨Int.emod_nonneg _ (by omega), Int.emod_lt_of_pos _ (by omega)⟩
theorem madeB_ok (b : Bt) {most : Int} (h : 0 ≤ most ∧ most ≤ 2147483647) : (madeB b most).ok = true ∧ (madeB b most).cap ≤ most := by
  have h1 := md_bd b.cap (m := most + 1) (by omega)
  have h2 := md_bd b.chg (m := md b.cap (most + 1) + 1) (by omega)
  have h3 := md_bd b.res (m := md b.cap (most + 1) + 1) (by omega)
  unfold madeB Bt.ok
  dsimp only
  exact ⟨decide_eq_true (by omega), by omega⟩
set_option maxHeartbeats 4000000 in
theorem rmadeb_any (b : Bt) (most : Int) (w : World) (h1 : I64 b.cap) (h2 : I64 b.chg) (h3 : I64 b.res) (hm : 1 ≤ most ∧ most ≤ 1000000) :
    Calls Try.prog 21 #[b.v, .int .i64 most] w fun e w' => e = .returned (madeB b most).v ∧ Below w.heap.size w w' := by
  obtain ⟨bc, bg, br⟩ := b
  dsimp only at *
  unfold madeB
  dsimp only
  have hb1 := md_bd bc (m := most + 1) (by omega)
  have hmz : ¬ most + 1 = 0 := by omega
  have k1 := uz_wrap h1
  have k2 := uz_mod (m := most + 1) h1
  have k3 : wrap64 (md bc (most + 1)) = md bc (most + 1) := IntWalk.wrap64_in _ (by omega)
  have k3' : IntKind.i64.wrap (md bc (most + 1)) = md bc (most + 1) := IntWalk.i64_in _ (by omega)
  have HU1 := Lib.hid (uz_nn h1)
  generalize md bc (most + 1) = c at *
  have g1 := md_bd bg (m := c + 1) (by omega)
  have g2 := md_bd br (m := c + 1) (by omega)
  have k4 := uz_wrap h2
  have k5 := uz_mod (m := c + 1) h2
  have k6 : IntKind.i64.wrap (md bg (c + 1)) = md bg (c + 1) := IntWalk.i64_in _ (by omega)
  have k7 := uz_wrap h3
  have k8 := uz_mod (m := c + 1) h3
  have k9 : IntKind.i64.wrap (md br (c + 1)) = md br (c + 1) := IntWalk.i64_in _ (by omega)
  have m1 : IntKind.i64.wrap (c + 1) = c + 1 := IntWalk.i64_in _ (by omega)
  have m2 : IntKind.u64.wrap (c + 1) = c + 1 := IntWalk.u64_in _ (by omega)
  have m3 : ¬ c + 1 = 0 := by omega
  generalize md bg (c + 1) = d at *
  generalize md br (c + 1) = e at *
  generalize uz bc = u1 at *
  generalize uz bg = u2 at *
  generalize uz br = u3 at *
  clear HU1 h1 h2 h3
  go_enter Try.func21, Try.ntmps21
  go_upto_region 2 with fail
  go_region
  obtain ⟨V, hV⟩ : ∃ V, V = ((w.alloc (Obj.cells #[.int .i64 bc, .int .i64 bg, .int .i64 br] 23)).alloc (Obj.cells #[.int .i64 c, .int .i64 d, .int .i64 e] 23)).drew := ⟨_, rfl⟩
  rw [← hV]
  have hh : V.heap[w.heap.size + 1]? = some (.cells #[.int .i64 c, .int .i64 d, .int .i64 e] 23 (0, 0)) := by
    rw [hV]
    have h := heap_top (w.alloc (Obj.cells #[.int .i64 bc, .int .i64 bg, .int .i64 br] 23)) (Obj.cells #[.int .i64 c, .int .i64 d, .int .i64 e] 23)
    rwa [World.size_alloc] at h
  have HVB : Hid (Below w.heap.size w V) := Lib.hid (by rw [hV]; exact (bel2 w _ _).drew)
  have e0 : V.cell? ⟨w.heap.size + 1, 0, none⟩ = some (.int .i64 c) := by rw [cell_obj hh]; rfl
  have e1 : V.cell? ⟨w.heap.size + 1, 1, none⟩ = some (.int .i64 d) := by rw [cell_obj hh]; rfl
  have e2 : V.cell? ⟨w.heap.size + 1, 2, none⟩ = some (.int .i64 e) := by rw [cell_obj hh]; rfl
  clear hV hh
  go_wp2_with fail
  refine bodyPost_ret (v := .agg #[.int .i64 c, .int .i64 d, .int .i64 e]) (by simp [results, Try.results21, go_sem, e0, e1, e2]) rfl ⟨rfl, HVB.out⟩
end Pw
end Go.Proofs.Ytobbnbelacncjaa
