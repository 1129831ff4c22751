/-
  Small facts on memory; the shared helpers of perigeeref01: Ceil, Bound, Pick, SameInts, Has.
-/
import Derived.Test.YtojflmejkigdiaaApp2
import Derived.Test.YtojflmejkigdiaaAround
import Derived.Test.YtojflmejkigdiaaShelf
import Derived.Deep.DeepCutAuto
import Derived.Deep.RegionHeld3
import Derived.Deep.LoopGhost
import Derived.Deep.QuietTactic
namespace Go.Proofs.Ytojflmejkigdiaa
open Go.RowKit
namespace Q
open H
set_option linter.unusedVariables false
set_option maxRecDepth 100000
abbrev I64 (a : Int) : Prop := -9223372036854775808 ≤ a ∧ a ≤ 9223372036854775807
theorem cell_top (w : World) (cs : Array Value) (t : TypeId) (o : Nat) : (w.alloc (.cells cs t)).cell? ⟨w.heap.size, o, none⟩ = cs[o]? := by
  rw [World.cell?_alloc_at _ _ _ _ (by simp)]
theorem cell_under {W : World} {a : Addr} {v : Value} (o : Obj) (h : W.cell? a = some v) : (W.alloc o).cell? a = some v :=
  (((Below.refl W.heap.size W).alloc (Nat.le_refl _) o).cell (World.block_lt_of_cell? _ _ h)).trans h
theorem heap_top (w : World) (o : Obj) : (w.alloc o).heap[w.heap.size]? = some o := by
  show (w.heap.push o)[w.heap.size]? = _
  simp
theorem heap_keep {W w3 : World} {b : Nat} {o : Obj} (hB : Below W.heap.size W w3) (h : W.heap[b]? = some o) : w3.heap[b]? = some o := by
  have hb : b < W.heap.size := by
    by_cases hb : b < W.heap.size
    · exact hb
    · rw [Array.getElem?_eq_none (by omega)] at h; cases h
  exact (hB.block b hb).trans h
theorem below_cell {W w3 : World} {a : Addr} {v : Value} (hB : Below W.heap.size W w3) (h : W.cell? a = some v) : w3.cell? a = some v := (hB.cell (World.block_lt_of_cell? _ _ h)).trans h
theorem infoI : (Try.prog.info? 3).map (fun i => (i.zero, i.size, i.bytes)) = some (some (.int .i64 0), 1, 8) := by kernel_rfl
theorem cell_new1 (w : World) (x : Value) (t : TypeId) : ∀ (j : Nat) (u : Value), [x][j]? = some u → (w.alloc (.cells #[x] t)).cell? ⟨w.heap.size, j, none⟩ = some u := fun j u h => by
  match j, h with
  | 0, h => obtain rfl := Option.some.inj h; exact cell_top _ _ _ _
abbrev ints (l : List Int) : List Value := l.map (Value.int .i64)
theorem own_any {w : World} {base n n' : Nat} {e : TypeId} {v : Value} {xs xs' : List Value} (h : w.ownsRow base e 1 v n xs) (hn : n = n') (hx : xs = xs') : w.ownsRow base e 1 v n' xs' := by subst hn; subst hx; exact h
theorem below_drew (w : World) : Below w.heap.size w w.drew := (Below.refl _ _).drew
theorem bel1 (w : World) (o : Obj) : Below w.heap.size w (w.alloc o) := (Below.refl _ w).alloc (Nat.le_refl _) _
theorem bel2 (w : World) (o p : Obj) : Below w.heap.size w ((w.alloc o).alloc p) := (bel1 w o).alloc (by simp) _
theorem belT {w V : World} (o : Obj) (h : Below (w.alloc o).heap.size (w.alloc o) V) : Below w.heap.size w V := (bel1 w o).trans (h.mono (by simp))
theorem belTT {w V : World} (o p : Obj) (h : Below ((w.alloc o).alloc p).heap.size ((w.alloc o).alloc p) V) : Below w.heap.size w V := (bel2 w o p).trans (h.mono (by simp; omega))
theorem cd_eq {c d : Int} (hc : 1 ≤ c) (hd : 1 ≤ d) : c / d + (if c % d < 1 then c % d else 1) = (c - 1) / d + 1 := by
  have h1 := Int.emod_nonneg c (show d ≠ 0 by omega)
  have h2 := Int.emod_lt_of_pos c (show 0 < d by omega)
  have h3 := Int.mul_ediv_add_emod c d
  have h4 : d * (c / d - 1) = d * (c / d) - d := by rw [Int.mul_sub, Int.mul_one]
  split
  · have e : c - 1 = (d - 1) + d * (c / d - 1) := by omega
    have e2 : (d - 1) / d = 0 := Int.ediv_eq_zero_of_lt (by omega) (by omega)
    rw [e, Int.add_mul_ediv_left _ _ (show d ≠ 0 by omega), e2]
    omega
  · have e : c - 1 = (c % d - 1) + d * (c / d) := by omega
    have e2 : (c % d - 1) / d = 0 := Int.ediv_eq_zero_of_lt (by omega) (by omega)
    rw [e, Int.add_mul_ediv_left _ _ (show d ≠ 0 by omega), e2]
    omega
theorem dv_bd {c d : Int} (hc : 0 ≤ c) (hd : 1 ≤ d) : 0 ≤ c / d ∧ c / d ≤ c := by
  exact ⟨Int.ediv_nonneg hc (by omega), Int.ediv_le_self _ hc⟩
set_option maxHeartbeats 1000000 in
theorem ceil_any (c d : Int) (w : World) (hc1 : 1 ≤ c) (hc2 : c ≤ 1099511627776) (hd : 1 ≤ d) (hd2 : d ≤ 1000000) : Calls Try.prog 71 #[.int .i64 c, .int .i64 d] w fun e w' => e = .returned (.int .i64 ((c - 1) / d + 1)) ∧ Below w.heap.size w w' := by
  have hc : 0 ≤ c := by omega
  have hz : ¬ (d = 0) := by omega
  have e1 : c.tdiv d = c / d := Int.tdiv_eq_ediv_of_nonneg hc
  have e2 : c.tmod d = c % d := Int.tmod_eq_emod_of_nonneg hc
  have bq := dv_bd (c := c - 1) (by omega) hd
  have b0 : 0 ≤ (c - 1) / d + 1 := by omega
  have b1 : (c - 1) / d + 1 ≤ c := by omega
  have hce := cd_eq hc1 hd
  clear bq
  have b2 := Int.emod_nonneg c (show d ≠ 0 by omega)
  have b3 := Int.ediv_nonneg hc (show 0 ≤ d by omega)
  generalize (c - 1) / d + 1 = k at *
  generalize c / d = x at *
  generalize c % d = y at *
  by_cases hy : y < 1
  · rw [if_pos hy] at hce
    have hw : wrap64 (x + min y 1) = k := by rw [show min y 1 = y by omega, hce]; exact IntWalk.wrap64_in _ (by omega)
    have hwq : IntKind.i64.wrap x = x := IntWalk.i64_in _ (by omega)
    clear hce
    go_enter Try.func71, Try.ntmps71
    go_wp2_with fail
    go_region
    go_wp2_with fail
    go_ret
    first | exact ⟨rfl, below_drew w⟩ | exact ⟨congrArg (fun z => Ending.returned (.int .i64 z)) hw, below_drew w⟩
  · rw [if_neg hy] at hce
    have hw : wrap64 (x + min y 1) = k := by rw [show min y 1 = 1 by omega, hce]; exact IntWalk.wrap64_in _ (by omega)
    have hwq : IntKind.i64.wrap x = x := IntWalk.i64_in _ (by omega)
    clear hce
    by_cases hy1 : y = 1
    · subst hy1
      go_enter Try.func71, Try.ntmps71
      go_wp2_with fail
      go_region
      go_wp2_with fail
      go_ret
      first | exact ⟨rfl, below_drew w⟩ | exact ⟨congrArg (fun z => Ending.returned (.int .i64 z)) hw, below_drew w⟩
    · have hy2 : ¬ (y ≤ 1) := by omega
      go_enter Try.func71, Try.ntmps71
      go_wp2_with fail
      go_region
      go_wp2_with fail
      go_ret
      first | exact ⟨rfl, below_drew w⟩ | exact ⟨congrArg (fun z => Ending.returned (.int .i64 z)) hw, below_drew w⟩
set_option maxHeartbeats 1000000 in
theorem bound_any (n k : Int) (w : World) (hn : I64 n) (hk : 0 ≤ k) (hk2 : k ≤ 4611686018427387903) : Calls Try.prog 31 #[.int .i64 n, .int .i64 k] w fun e w' => e = .returned (.int .i64 (around n (2 * k + 1) - k)) ∧ w' = w := by
  have HA := Lib.hid (fun W => around_any n (2 * k + 1) hn.1 hn.2 (by omega) (by omega) W)
  have h1 := around_lt n (m := 2 * k + 1) (by omega)
  generalize around n (2 * k + 1) = x at *
  clear hn
  go_enter Try.func31, Try.ntmps31
  go_wp2_with (go_at_call 17; refine (HA.out _).mono ?_; rintro e w2 ⟨rfl, rfl⟩)
  go_ret
  exact ⟨rfl, rfl⟩
def pick (l : List Int) (i m : Int) : Int := if i < 0 ∨ (l.length : Int) ≤ i then 0 else around (l[i.toNat]?.getD 0) m
theorem pick_bd (l : List Int) (i : Int) {m : Int} (h : 1 ≤ m) : 0 ≤ pick l i m ∧ pick l i m < m := by
  unfold pick
  split
  · omega
  · exact around_lt _ h
set_option maxHeartbeats 1000000 in
theorem pick_any (A : Option Addr) (c B : Nat) (l : List Int) (i m : Int) (w : World) (hn : l.length ≤ 140737488351232) (hr : RdI w B .i64 A l) (hl : ∀ z ∈ l, I64 z) (hm : 1 ≤ m) (hm2 : m ≤ 9223372036854775807) :
    Calls Try.prog 42 #[.slice A l.length c, .int .i64 i, .int .i64 m] w fun e w' => e = .returned (.int .i64 (pick l i m)) ∧ w' = w := by
  unfold pick
  by_cases h0 : i < 0
  · rw [if_pos (.inl h0)]
    generalize l.length = n at *
    go_enter Try.func42, Try.ntmps42
    go_wp2_with fail
    go_ret
    exact ⟨rfl, rfl⟩
  · by_cases h1 : (l.length : Int) ≤ i
    · rw [if_pos (.inr h1)]
      generalize l.length = n at *
      go_enter Try.func42, Try.ntmps42
      go_wp2_with fail
      go_ret
      exact ⟨rfl, rfl⟩
    · rw [if_neg (by omega)]
      obtain ⟨k, rfl⟩ : ∃ k : Nat, i = k := ⟨i.toNat, by omega⟩
      have hk : k < l.length := by omega
      obtain ⟨ad, rfl, _, hx⟩ := hr k hk
      have hw := hl (l[k]?.getD 0) (by rw [List.getElem?_eq_getElem hk]; exact List.getElem_mem hk)
      rw [show ((k : Nat) : Int).toNat = k from rfl]
      generalize l[k]?.getD 0 = x at *
      have HA := Lib.hid (fun W => around_any x m hw.1 hw.2 hm hm2 W)
      have hki : (k : Int) < (l.length : Int) := by omega
      clear hl hr hw hk
      generalize l.length = n at *
      generalize around x m = y at *
      go_enter Try.func42, Try.ntmps42
      go_wp2_with (go_at_call 17; refine (HA.out _).mono ?_; rintro e w2 ⟨rfl, rfl⟩)
      go_ret
      exact ⟨rfl, rfl⟩
theorem take_same {xs bs : List Int} {k : Nat} (h : xs.take k = bs.take k) {x y : Int} (hx : xs[k]? = some x) (hy : bs[k]? = some y) (e : x = y) : xs.take (k + 1) = bs.take (k + 1) := by
  subst e
  rw [List.take_add_one, List.take_add_one, h, hx, hy]
theorem take_diff {xs bs : List Int} {k : Nat} {x y : Int} (hx : xs[k]? = some x) (hy : bs[k]? = some y) (e : ¬ x = y) : xs ≠ bs := by
  rintro rfl
  rw [hx] at hy
  exact e (Option.some.inj hy)

set_option maxHeartbeats 1000000 in
theorem sameI_any (A A' : Option Addr) (c c' : Nat) (xs bs : List Int) (w : World) (hn : xs.length ≤ 140737488351232) (hn' : bs.length ≤ 140737488351232) (hr : RdI w w.heap.size .i64 A xs) (hr' : RdI w w.heap.size .i64 A' bs) :
    Calls Try.prog 25 #[.slice A xs.length c, .slice A' bs.length c'] w fun e w' => e = .returned (.bool (decide (xs = bs))) ∧ Below w.heap.size w w' := by
  have HR := Lib.hid hr
  have HR' := Lib.hid hr'
  clear hr hr'
  by_cases hnn : xs.length = bs.length
  · have HL : Hid (xs.length = xs.length) := Lib.hid rfl
    have HL' := Lib.hid hnn.symm
    rw [← hnn]
    generalize hlen : xs.length = n at *
    have HLN := Lib.hid hlen
    clear hlen hnn
    go_enter Try.func25, Try.ntmps25
    go_wp2_with fail
    go_loopg [5] n (fun g i wr => ∃ k : Nat, k + g = n ∧ i = .int .i64 (k : Nat) ∧ Hid (xs.take k = bs.take k) ∧ Below w.heap.size w wr)
    case atStart => exact ⟨0, Nat.zero_add _, rfl, Lib.hid (by simp), Below.refl _ _⟩
    case round =>
      obtain ⟨k, hg, rfl, HT, hB⟩ := hrel
      have HG := Lib.hid hg
      have HB := Lib.hid hB
      have hkn : k ≤ n := by omega
      clear hg hB
      by_cases hlt : k < n
      · have HLT := Lib.hid hlt
        obtain ⟨ad, rfl, _, hx⟩ := HR.out.below HB.out k (by rw [HLN.out]; exact hlt)
        obtain ⟨bd, rfl, _, hy⟩ := HR'.out.below HB.out k (by rw [HL'.out]; exact hlt)
        have gx : xs[k]? = some (xs[k]?.getD 0) := by rw [List.getElem?_eq_getElem (by rw [HLN.out]; exact hlt)]; rfl
        have gy : bs[k]? = some (bs[k]?.getD 0) := by rw [List.getElem?_eq_getElem (by rw [HL'.out]; exact hlt)]; rfl
        generalize xs[k]?.getD 0 = x at hx gx
        generalize bs[k]?.getD 0 = y at hy gy
        have GX := Lib.hid gx
        have GY := Lib.hid gy
        have hki : (k : Int) < (n : Int) := by omega
        clear gx gy hlt
        by_cases hxy : x = y
        · have HXY := Lib.hid (take_same HT.out GX.out GY.out hxy)
          subst hxy
          go_wp2_with fail
          go_region
          all_goals go_wp2_with fail
          all_goals go_roundg (gk - 1)
          case measure => have := HG.out; have := HLT.out; omega
          case rel => exact ⟨k + 1, by have := HG.out; have := HLT.out; omega, by go_num, HXY, HB.out.drew⟩
        · have HXY := Lib.hid (take_diff GX.out GY.out hxy)
          go_wp2_with fail
          go_region
          all_goals go_wp2_with fail
          all_goals go_ret
          all_goals exact ⟨by rw [decide_eq_false HXY.out]; rfl, HB.out.drew⟩
      · have ht := HT.out
        rw [List.take_of_length_le (by rw [HLN.out]; omega), List.take_of_length_le (by rw [HL'.out]; omega)] at ht
        have HTT := Lib.hid ht
        have hki : ¬ (k : Int) < (n : Int) := by omega
        clear ht hlt
        go_wp2_with fail
        go_ret
        exact ⟨by rw [decide_eq_true HTT.out]; rfl, HB.out⟩
  · have hne : decide (xs = bs) = false := by
      rw [decide_eq_false_iff_not]
      rintro rfl
      exact hnn rfl
    rw [hne]
    clear hne
    generalize xs.length = n at *
    generalize bs.length = n' at *
    have hnn2 : ¬ ((n : Int) = (n' : Int)) := by omega
    clear hnn
    go_enter Try.func25, Try.ntmps25
    go_wp2_with fail
    go_ret
    exact ⟨rfl, Below.refl _ _⟩
set_option maxHeartbeats 1000000 in
theorem has_any (A : Option Addr) (c : Nat) (xs : List Int) (y : Int) (w : World) (hn : xs.length ≤ 140737488351232) (hr : RdI w w.heap.size .i64 A xs) :
    Calls Try.prog 27 #[.slice A xs.length c, .int .i64 y] w fun e w' => e = .returned (.bool (decide (y ∈ xs))) ∧ w' = w := by
  have HR := Lib.hid hr
  clear hr
  have HOUT : Hid ((∀ (j : Nat), j < xs.length → xs[j]? ≠ some y) → decide (y ∈ xs) = false) := Lib.hid (fun h => by
    rw [decide_eq_false_iff_not]
    intro hm
    obtain ⟨j, hj⟩ := List.mem_iff_getElem?.1 hm
    exact h j (List.getElem?_eq_some_iff.1 hj).1 hj)
  have HIN : Hid (∀ j : Nat, xs[j]? = some y → decide (y ∈ xs) = true) := Lib.hid (fun j h => decide_eq_true (List.mem_of_getElem? h))
  have HGET := Lib.hid (fun k (hk : k < xs.length) => (⟨xs[k], List.getElem?_eq_getElem hk⟩ : ∃ x, xs[k]? = some x))
  generalize hlen : xs.length = n at *
  have HLN := Lib.hid hlen
  clear hlen
  generalize decide (y ∈ xs) = d at *
  go_enter Try.func27, Try.ntmps27
  go_wp2_with fail
  go_loopg [5] n (fun g i wr => ∃ k : Nat, k + g = n ∧ i = .int .i64 (k : Nat) ∧ Hid (∀ j, j < k → xs[j]? ≠ some y) ∧ wr = w)
  case atStart => exact ⟨0, Nat.zero_add _, rfl, Lib.hid (fun j hj => absurd hj (Nat.not_lt_zero _)), rfl⟩
  case round =>
    obtain ⟨k, hg, rfl, HT, rfl⟩ := hrel
    have HG := Lib.hid hg
    have hkn : k ≤ n := by omega
    clear hg
    by_cases hlt : k < n
    · have HLT := Lib.hid hlt
      obtain ⟨x, hx⟩ := HGET.out k hlt
      obtain ⟨ad, rfl, _, cx⟩ := HR.out k (by rw [HLN.out]; exact hlt)
      rw [hx] at cx
      dsimp only [Option.getD_some] at cx
      have HX := Lib.hid hx
      have hki : (k : Int) < (n : Int) := by omega
      clear hx hlt
      by_cases hxy : x = y
      · subst hxy
        have HD := Lib.hid (HIN.out k HX.out)
        go_wp2_with fail
        go_ret
        exact ⟨by rw [HD.out]; rfl, rfl⟩
      · have HNX : Hid (∀ j, j < k + 1 → xs[j]? ≠ some y) := Lib.hid (fun j hj hjx => by
          rcases Nat.lt_or_ge j k with h | h
          · exact HT.out j h hjx
          · obtain rfl : j = k := by omega
            rw [HX.out] at hjx
            exact hxy (Option.some.inj hjx))
        go_wp2_with fail
        go_roundg (gk - 1)
        case measure => have := HG.out; have := HLT.out; omega
        case rel => exact ⟨k + 1, by have := HG.out; have := HLT.out; omega, by go_num, HNX, rfl⟩
    · obtain rfl : k = n := by omega
      have HD := Lib.hid (HOUT.out HT.out)
      clear hlt
      go_wp2_with fail
      go_ret
      exact ⟨by rw [HD.out]; rfl, rfl⟩
end Q
end Go.Proofs.Ytojflmejkigdiaa
