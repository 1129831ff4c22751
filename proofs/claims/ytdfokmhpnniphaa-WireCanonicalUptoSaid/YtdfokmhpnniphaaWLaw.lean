/-
  The laws' own helpers: the length of an item, whether two are the same, whether two encodings are apart.
-/
import Derived.Test.YtdfokmhpnniphaaWOpen
namespace Go.Proofs.Ytdfokmhpnniphaa
open Go.RowKit
namespace W
open H
set_option linter.unusedVariables false

/-- An item by value. -/
def Itm.agg (x : Itm) : Value := .agg #[.int .i64 x.k, .int .u64 x.u, .int .i64 x.i, .slice x.bA x.bn x.bc, .slice x.lA x.ln x.lc, .int .i64 x.m]
def Itm.len (x : Itm) : Nat := if x.k = 2 then x.bn else x.ln

set_option maxHeartbeats 1000000 in
theorem length_any (x : Itm) (w : World) :
    Calls Try.prog 32 #[x.agg] w fun r w' => r = .returned (.int .i64 x.len) ∧ Below w.heap.size w w' := by
  unfold Itm.agg Itm.len
  by_cases h : x.k = 2
  · have h1 : (x.k == 2) = true := by simpa using h
    rw [if_pos h]
    clear h
    go_enter Try.func32, Try.ntmps32
    go_wp2
    go_ret
    exact ⟨rfl, (Below.refl _ _).alloc (Nat.le_refl _) _⟩
  · have h1 : (x.k == 2) = false := by simpa using h
    rw [if_neg h]
    clear h
    go_enter Try.func32, Try.ntmps32
    go_wp2
    go_ret
    exact ⟨rfl, (Below.refl _ _).alloc (Nat.le_refl _) _⟩

/-- The item's slices, as they lie in memory. -/
structure Lies (w : World) (x : Itm) : Prop where
  bl : x.bs.length = x.bn
  ll : x.ls.length = x.ln
  bn : x.bn ≤ 140737488351232
  ln : x.ln ≤ 140737488351232
  rb : RdI w w.heap.size .u8 x.bA x.bs
  rl : RdI w w.heap.size .i64 x.lA x.ls

set_option maxRecDepth 100000 in
set_option maxHeartbeats 1000000 in
theorem same_any (x y : Itm) (w : World) (hx : Lies w x) (hy : Lies w y) :
    Calls Try.prog 31 #[x.agg, y.agg] w fun r w' => r = .returned (.bool (decide (x.u = y.u ∧ x.i = y.i ∧ x.bs = y.bs ∧ x.ls = y.ls))) ∧ Below w.heap.size w w' := by
  unfold Itm.agg
  have HX := Lib.hid hx
  have HY := Lib.hid hy
  clear hx hy
  have hB0 : Below w.heap.size w ((w.alloc (.cells #[.int .i64 x.k, .int .u64 x.u, .int .i64 x.i, .slice x.bA x.bn x.bc, .slice x.lA x.ln x.lc, .int .i64 x.m] 53)).alloc (.cells #[.int .i64 y.k, .int .u64 y.u, .int .i64 y.i, .slice y.bA y.bn y.bc, .slice y.lA y.ln y.lc, .int .i64 y.m] 53)) := ((Below.refl _ _).alloc (Nat.le_refl _) _).alloc (by simp) _
  have HB0 := Lib.hid hB0
  clear hB0
  by_cases hu : x.u = y.u
  · have gu : ((x.u : Int) == (y.u : Int)) = true := by rw [hu]; simp
    by_cases hi : x.i = y.i
    · have gi : (x.i == y.i) = true := by simpa using hi
      have hsb := sameB_any x.bA y.bA x.bn y.bn x.bc y.bc x.bs y.bs ((w.alloc (.cells #[.int .i64 x.k, .int .u64 x.u, .int .i64 x.i, .slice x.bA x.bn x.bc, .slice x.lA x.ln x.lc, .int .i64 x.m] 53)).alloc (.cells #[.int .i64 y.k, .int .u64 y.u, .int .i64 y.i, .slice y.bA y.bn y.bc, .slice y.lA y.ln y.lc, .int .i64 y.m] 53)) HX.out.bl HY.out.bl HX.out.bn ((HX.out.rb.below HB0.out).more (by simp; omega)) ((HY.out.rb.below HB0.out).more (by simp; omega))
      have hv : decide (x.u = y.u ∧ x.i = y.i ∧ x.bs = y.bs ∧ x.ls = y.ls) = (decide (x.bs = y.bs) && decide (x.ls = y.ls)) := by simp [hu, hi]
      rw [hv]
      clear hv hu hi
      go_enter Try.func31, Try.ntmps31
      go_wp2_with fail
      refine hsb.mono ?_
      clear hsb
      rintro e w1 ⟨rfl, hb1⟩
      obtain ⟨hcl, hfr⟩ := bcell hb1
      have c4 : w1.cell? ⟨w.heap.size, 4, none⟩ = some (.slice x.lA x.ln x.lc) := by rw [hcl _ _ (by simp; omega)]; simp
      have d4 : w1.cell? ⟨w.heap.size + 1, 4, none⟩ = some (.slice y.lA y.ln y.lc) := by rw [hcl _ _ (by simp)]; simp
      have hsz1 : w.heap.size + 1 < w1.heap.size := by have := hb1.size; simp at this; omega
      have hB1 : Below w.heap.size w w1 := HB0.out.trans (hb1.mono (by simp; omega))
      have HB1 := Lib.hid hB1
      clear hB1 hcl hfr
      by_cases hbs : x.bs = y.bs
      · have hsi := sameI_any x.lA y.lA x.ln y.ln x.lc y.lc x.ls y.ls w1 HX.out.ll HY.out.ll HX.out.ln ((HX.out.rl.below HB1.out).more (by omega)) ((HY.out.rl.below HB1.out).more (by omega))
        have gb : decide (x.bs = y.bs) = true := by simpa using hbs
        rw [gb]
        have HBS := Lib.hid hbs
        clear hbs gb hb1
        go_wp2_with fail
        refine hsi.mono ?_
        clear hsi
        rintro e w2 ⟨rfl, hb2⟩
        go_wp2_with fail
        go_ret
        exact ⟨by simp [HBS.out], HB1.out.trans (hb2.mono (by omega))⟩
      · have gb : decide (x.bs = y.bs) = false := by simpa using hbs
        rw [gb]
        have HBS := Lib.hid hbs
        clear hbs gb hb1
        go_wp2_with fail
        go_ret
        exact ⟨by simp [HBS.out], HB1.out⟩
    · have gi : (x.i == y.i) = false := by simpa using hi
      have hv : decide (x.u = y.u ∧ x.i = y.i ∧ x.bs = y.bs ∧ x.ls = y.ls) = false := by simp [hi]
      rw [hv]
      clear hv hu hi
      go_enter Try.func31, Try.ntmps31
      go_wp2_with fail
      go_ret
      exact ⟨rfl, HB0.out⟩
  · have gu : ((x.u : Int) == (y.u : Int)) = false := by rw [beq_eq_false_iff_ne]; omega
    have hv : decide (x.u = y.u ∧ x.i = y.i ∧ x.bs = y.bs ∧ x.ls = y.ls) = false := by simp [hu]
    rw [hv]
    clear hv hu
    go_enter Try.func31, Try.ntmps31
    go_wp2_with fail
    go_ret
    exact ⟨rfl, HB0.out⟩

set_option maxRecDepth 100000 in
set_option maxHeartbeats 4000000 in
theorem apart_any (A A' : Option Addr) (n n' c c' : Nat) (xs ys : List Int) (eq : Bool) (w : World) (hl : xs.length = n) (hl' : ys.length = n') (hn : n ≤ 140737488351232) (hn' : n' ≤ 140737488351232) (hc : n ≤ c) (hc' : n' ≤ c') (hr : RdI w w.heap.size .u8 A xs) (hr' : RdI w w.heap.size .u8 A' ys)
    (heq : eq = true → xs = ys) (hap : eq = false → xs.take (min n n') ≠ ys.take (min n n')) (hz : A = none → c = 0) (hz' : A' = none → c' = 0) (hcm : c ≤ maxLen) (hcm' : c' ≤ maxLen) :
    Calls Try.prog 33 #[.slice A n c, .slice A' n' c', .bool eq] w fun r w' => r = .returned (.bool true) ∧ Below w.heap.size w w' := by
  have HR := Lib.hid hr
  have HR' := Lib.hid hr'
  have HL := Lib.hid hl
  have HL' := Lib.hid hl'
  have HE := Lib.hid heq
  have HA := Lib.hid hap
  have h63 : c ≤ 9223372036854775807 := hcm
  have h63' : c' ≤ 9223372036854775807 := hcm'
  clear hr hr' hl hl' heq hap hcm hcm'
  have hT : ∀ {B : Nat} {A : Option Addr} {zs : List Int} (m : Nat), RdI w B .u8 A zs → RdI w B .u8 A (zs.take m) := fun {B A zs} m h j hj => by
    rw [List.length_take] at hj
    obtain ⟨ad, e, hb, hcc⟩ := h j (by omega)
    exact ⟨ad, e, hb, by rw [hcc, List.getElem?_take, if_pos (by omega)]⟩
  cases eq with
  | false =>
    have hne := HA.out rfl
    have h0 : 0 < n := by
      rcases Nat.eq_zero_or_pos n with h | h
      · rw [h, Nat.min_eq_left (by omega)] at hne; exact absurd rfl hne
      · exact h
    have h0' : 0 < n' := by
      rcases Nat.eq_zero_or_pos n' with h | h
      · rw [h, Nat.min_eq_right (by omega)] at hne; exact absurd rfl hne
      · exact h
    obtain ⟨ad, rfl⟩ : ∃ ad, A = some ad := by
      cases A with
      | none => have := hz rfl; omega
      | some ad => exact ⟨ad, rfl⟩
    obtain ⟨ad', rfl⟩ : ∃ ad, A' = some ad := by
      cases A' with
      | none => have := hz' rfl; omega
      | some ad => exact ⟨ad, rfl⟩
    rcases Nat.lt_or_ge n' n with hlt | hge
    · have hsame := fun (c1 c2 : Nat) => sameB_any (some ad) (some ad') n' n' c1 c2 (xs.take n') (ys.take n') w.drew (by rw [List.length_take, HL.out]; omega) (by rw [List.length_take, HL'.out]; omega) hn' ((hT _ HR.out).below (Below.refl _ w).drew) ((hT _ HR'.out).below (Below.refl _ w).drew)
      have hd : decide (xs.take n' = ys.take n') = false := by
        rw [Nat.min_eq_right (by omega)] at hne
        simpa using hne
      rw [hd] at hsame
      have HS := Lib.hid hsame
      clear hsame hd hT hz hz' hne
      go_enter Try.func33, Try.ntmps33
      go_wp2_with fail
      go_region_with (go_at_call 13; refine (HS.out _ _).mono ?_; rintro e w1 ⟨rfl, hb1⟩)
      all_goals
        have hB := (Below.refl w.heap.size w).drew.trans (hb1.mono (Below.refl w.heap.size w).drew.size)
        clear hb1
        go_wp2_with fail
        go_ret
        exact ⟨rfl, hB⟩
    · have hsame := fun (c1 c2 : Nat) => sameB_any (some ad) (some ad') n n c1 c2 (xs.take n) (ys.take n) w.drew (by rw [List.length_take, HL.out]; omega) (by rw [List.length_take, HL'.out]; omega) hn ((hT _ HR.out).below (Below.refl _ w).drew) ((hT _ HR'.out).below (Below.refl _ w).drew)
      have hd : decide (xs.take n = ys.take n) = false := by
        rw [Nat.min_eq_left (by omega)] at hne
        simpa using hne
      rw [hd] at hsame
      have HS := Lib.hid hsame
      clear hsame hd hT hz hz' hne
      go_enter Try.func33, Try.ntmps33
      go_wp2_with fail
      go_region_with (go_at_call 13; refine (HS.out _ _).mono ?_; rintro e w1 ⟨rfl, hb1⟩)
      all_goals
        have hB := (Below.refl w.heap.size w).drew.trans (hb1.mono (Below.refl w.heap.size w).drew.size)
        clear hb1
        go_wp2_with fail
        go_ret
        exact ⟨rfl, hB⟩
  | true =>
    obtain rfl := HE.out rfl
    obtain rfl : n' = n := by rw [← HL'.out, ← HL.out]
    have hsame := fun (c1 c2 : Nat) => sameB_any A A' n' n' c1 c2 (xs.take n') (xs.take n') w.drew (by rw [List.length_take, HL.out]; omega) (by rw [List.length_take, HL.out]; omega) hn' ((hT _ HR.out).below (Below.refl _ w).drew) ((hT _ HR'.out).below (Below.refl _ w).drew)
    rw [show decide (xs.take n' = xs.take n') = true from by simp] at hsame
    have HS := Lib.hid hsame
    clear hsame hT HE HA
    rcases A with _ | ad
    · obtain rfl : c = 0 := hz rfl
      have hn0 : n' ≤ 0 := by omega
      obtain rfl : n' = 0 := by omega
      rcases A' with _ | ad'
      · obtain rfl : c' = 0 := hz' rfl
        clear hz hz'
        go_enter Try.func33, Try.ntmps33
        go_wp2_with fail
        go_region_with (go_at_call 13; refine (HS.out _ _).mono ?_; rintro e w1 ⟨rfl, hb1⟩)
        all_goals
          have hB := (Below.refl w.heap.size w).drew.trans (hb1.mono (Below.refl w.heap.size w).drew.size)
          clear hb1
          go_wp2_with fail
          go_ret
          exact ⟨rfl, hB⟩
      · clear hz hz'
        go_enter Try.func33, Try.ntmps33
        go_wp2_with fail
        go_region_with (go_at_call 13; refine (HS.out _ _).mono ?_; rintro e w1 ⟨rfl, hb1⟩)
        all_goals
          have hB := (Below.refl w.heap.size w).drew.trans (hb1.mono (Below.refl w.heap.size w).drew.size)
          clear hb1
          go_wp2_with fail
          go_ret
          exact ⟨rfl, hB⟩
    · rcases A' with _ | ad'
      · obtain rfl : c' = 0 := hz' rfl
        have hn0 : n' ≤ 0 := by omega
        obtain rfl : n' = 0 := by omega
        clear hz hz'
        go_enter Try.func33, Try.ntmps33
        go_wp2_with fail
        go_region_with (go_at_call 13; refine (HS.out _ _).mono ?_; rintro e w1 ⟨rfl, hb1⟩)
        all_goals
          have hB := (Below.refl w.heap.size w).drew.trans (hb1.mono (Below.refl w.heap.size w).drew.size)
          clear hb1
          go_wp2_with fail
          go_ret
          exact ⟨rfl, hB⟩
      · clear hz hz'
        go_enter Try.func33, Try.ntmps33
        go_wp2_with fail
        go_region_with (go_at_call 13; refine (HS.out _ _).mono ?_; rintro e w1 ⟨rfl, hb1⟩)
        all_goals
          have hB := (Below.refl w.heap.size w).drew.trans (hb1.mono (Below.refl w.heap.size w).drew.size)
          clear hb1
          go_wp2_with fail
          go_ret
          exact ⟨rfl, hB⟩

end W
end Go.Proofs.Ytdfokmhpnniphaa
