/-
  Contracts of the specification of layer 7: SameRecord, Same, With, Size, Record, Rows.
-/
import Derived.Test.YtnoohhpajoaaoaaDoorJRef
import Derived.Test.YtnoohhpajoaaoaaDoorAround
import Derived.OwnWalk
import Derived.Test.YtnoohhpajoaaoaaDoorApp2
import Derived.Maps.AppendAt
namespace Go.Proofs.YtnoohhpajoaaoaaDoor
open Go.RowKit
namespace J
open H R
set_option linter.unusedVariables false
set_option maxRecDepth 100000
theorem ne_of_at {α : Type} {a b : List α} {k : Nat} {x y : α} (ha : a[k]? = some x) (hb : b[k]? = some y) (h : x ≠ y) : a ≠ b := by
  rintro rfl
  rw [ha] at hb
  injection hb with hb
  exact h hb
set_option maxHeartbeats 2000000 in
theorem rsamerec_any {w : World} {G G' : Nat → Prop} {u v : Value} {xs ys : List Nat} (hx : Rd w G u xs) (hy : Rd w G' v ys) (hb : xs.length ≤ 1000000) :
    Calls Tryd.prog 46 #[u, v] w fun r w' => r = .returned (.bool (decide (xs = ys))) ∧ ∃ n, w' = w.drewN n := by
  obtain ⟨A, c, rfl⟩ := Sl.shape hx
  obtain ⟨B, d, rfl⟩ := Sl.shape hy
  rw [w32_len] at hx hy ⊢
  rw [w32_len]
  by_cases hl : xs.length = ys.length
  · have HX := Lib.hid (fun n => Sl.drewN hx n)
    have HY := Lib.hid (fun n => Sl.drewN hy n)
    have HL := Lib.hid hl
    clear hx hy
    rw [← hl] at HY ⊢
    clear hl
    go_enter Tryd.func46, Tryd.ntmps46
    go_wp2_with fail
    go_loopg [5] xs.length (fun g i wr => ∃ k q : Nat, k + g = xs.length ∧ i = .int .i64 (k : Nat) ∧ wr = w.drewN q ∧ ∀ j, j < k → xs[j]? = ys[j]?)
    case atStart => exact ⟨0, 0, Nat.zero_add _, rfl, rfl, fun j hj => by omega⟩
    case round =>
      obtain ⟨k, q, hg, rfl, hwr, hal⟩ := hrel
      have HG := Lib.hid hg
      have HAL := Lib.hid hal
      have HW := Lib.hid hwr
      have hrx : Rd wr G (.slice A xs.length c) xs := by rw [hwr]; exact HX.out q
      have hry : Rd wr G' (.slice B xs.length d) ys := by rw [hwr]; exact HY.out q
      have HRX := Lib.hid hrx
      have HRY := Lib.hid hry
      clear hg hal hwr hrx hry
      by_cases hlt : k < xs.length
      · have hki : (k : Int) < (xs.length : Int) := by omega
        obtain ⟨x, hxs⟩ : ∃ x, xs[k]? = some x := ⟨_, List.getElem?_eq_getElem hlt⟩
        obtain ⟨y, hys⟩ : ∃ y, ys[k]? = some y := ⟨_, List.getElem?_eq_getElem (by rw [← HL.out]; exact hlt)⟩
        obtain ⟨ax, rfl, hcx⟩ := Rd.get HRX.out hxs
        obtain ⟨ay, rfl, hcy⟩ := Rd.get HRY.out hys
        have HXS := Lib.hid hxs
        have HYS := Lib.hid hys
        clear hxs hys
        by_cases hxy : x = y
        · have HN : Hid (∀ j, j < k + 1 → xs[j]? = ys[j]?) := Lib.hid (fun j hj => by
            rcases Nat.lt_or_ge j k with h | h
            · exact HAL.out j h
            · obtain rfl : j = k := by omega
              rw [HXS.out, HYS.out, hxy])
          have hne : ((x : Int) != (y : Int)) = false := by simp [hxy]
          clear hxy
          go_wp2_with fail
          go_quiet (fail)
          go_wp2_with fail
          go_roundg (gk - 1)
          case measure => have := HG.out; omega
          case rel => exact ⟨k + 1, _, by have := HG.out; omega, by go_num, by rw [HW.out, World.drewN_drewN], HN.out⟩
        · have hne : ((x : Int) != (y : Int)) = true := by simp; omega
          have HE : Hid (decide (xs = ys) = false) := Lib.hid (by simp; exact ne_of_at HXS.out HYS.out hxy)
          clear hxy
          go_wp2_with fail
          go_quiet (fail)
          go_wp2_with fail
          go_ret
          exact ⟨by rw [HE.out]; rfl, _, by rw [HW.out, World.drewN_drewN]⟩
      · have hki : ¬ (k : Int) < (xs.length : Int) := by omega
        have HE : Hid (decide (xs = ys) = true) := Lib.hid (by simp; exact eq_of_takes HL.out fun j hj => HAL.out j (by omega))
        clear hlt
        go_wp2_with fail
        go_ret
        exact ⟨by rw [HE.out]; rfl, q, HW.out⟩
  · have hne : ((xs.length : Int) != (ys.length : Int)) = true := by simp; omega
    have HE : Hid (decide (xs = ys) = false) := Lib.hid (by simp; rintro rfl; exact hl rfl)
    clear hl hx hy
    generalize xs.length = l1 at *
    generalize ys.length = l2 at *
    go_enter Tryd.func46, Tryd.ntmps46
    go_wp2_with fail
    go_ret
    exact ⟨by rw [HE.out]; rfl, 0, rfl⟩
set_option maxHeartbeats 2000000 in
theorem rsame_any {w : World} {G G' : Nat → Prop} {u v : Value} {xs ys : List (List Nat)} (hx : RR w G u xs) (hy : RR w G' v ys) (hb : usedL xs ≤ 1000000) :
    Calls Tryd.prog 26 #[u, v] w fun r w' => r = .returned (.bool (decide (xs = ys))) ∧ ∃ n, w' = w.drewN n := by
  obtain ⟨A, c, rfl⟩ := hx.shape
  obtain ⟨B, d, rfl⟩ := hy.shape
  have hlb := rows_le_used xs
  have hlb2 : xs.length ≤ 1000000 := by omega
  clear hlb
  by_cases hl : xs.length = ys.length
  · have HX := Lib.hid (fun n => hx.drewN n)
    have HY := Lib.hid (fun n => hy.drewN n)
    have HL := Lib.hid hl
    have HBB := Lib.hid hb
    clear hx hy hb
    rw [← hl] at HY ⊢
    clear hl
    go_enter Tryd.func26, Tryd.ntmps26
    go_wp2_with fail
    go_loopg [5] xs.length (fun g i wr => ∃ k q : Nat, k + g = xs.length ∧ i = .int .i64 (k : Nat) ∧ wr = w.drewN q ∧ ∀ j, j < k → xs[j]? = ys[j]?)
    case atStart => exact ⟨0, 0, Nat.zero_add _, rfl, rfl, fun j hj => by omega⟩
    case round =>
      obtain ⟨k, q, hg, rfl, hwr, hal⟩ := hrel
      have HG := Lib.hid hg
      have HAL := Lib.hid hal
      have HW := Lib.hid hwr
      have hrx : RR wr G (.slice A xs.length c) xs := by rw [hwr]; exact HX.out q
      have hry : RR wr G' (.slice B xs.length d) ys := by rw [hwr]; exact HY.out q
      have HRX := Lib.hid hrx
      have HRY := Lib.hid hry
      clear hg hal hwr hrx hry
      by_cases hlt : k < xs.length
      · have hki : (k : Int) < (xs.length : Int) := by omega
        obtain ⟨x, hxs⟩ : ∃ x, xs[k]? = some x := ⟨_, List.getElem?_eq_getElem hlt⟩
        obtain ⟨y, hys⟩ : ∃ y, ys[k]? = some y := ⟨_, List.getElem?_eq_getElem (by rw [← HL.out]; exact hlt)⟩
        obtain ⟨ax, C, e, rfl, hcx, hrx⟩ := HRX.out.get hxs
        obtain ⟨ay, D, f, rfl, hcy, hry⟩ := HRY.out.get hys
        have HXS := Lib.hid hxs
        have HYS := Lib.hid hys
        have hxl := len_le_used hxs
        have HSR := Lib.hid (fun n => rsamerec_any (Sl.drewN hrx n) (Sl.drewN hry n) (by have := HBB.out; omega))
        clear hxs hys hrx hry hxl
        generalize x.length = lx at *
        generalize y.length = ly at *
        by_cases hxy : x = y
        · have HN : Hid (∀ j, j < k + 1 → xs[j]? = ys[j]?) := Lib.hid (fun j hj => by
            rcases Nat.lt_or_ge j k with h | h
            · exact HAL.out j h
            · obtain rfl : j = k := by omega
              rw [HXS.out, HYS.out, hxy])
          rw [decide_eq_true hxy] at HSR
          clear hxy
          go_wp2_with fail
          go_quiet ((go_at_call 46; exact Calls.quiet_of (HSR.out _)))
          go_wp2_with fail
          go_roundg (gk - 1)
          case measure => have := HG.out; omega
          case rel => exact ⟨k + 1, _, by have := HG.out; omega, by go_num, by rw [HW.out, World.drewN_drewN], HN.out⟩
        · have HE : Hid (decide (xs = ys) = false) := Lib.hid (by simp; exact ne_of_at HXS.out HYS.out hxy)
          rw [decide_eq_false hxy] at HSR
          clear hxy
          go_wp2_with fail
          go_quiet ((go_at_call 46; exact Calls.quiet_of (HSR.out _)))
          go_wp2_with fail
          go_ret
          exact ⟨by rw [HE.out]; rfl, _, by rw [HW.out, World.drewN_drewN]⟩
      · have hki : ¬ (k : Int) < (xs.length : Int) := by omega
        have HE : Hid (decide (xs = ys) = true) := Lib.hid (by simp; exact eq_of_takes HL.out fun j hj => HAL.out j (by omega))
        clear hlt
        go_wp2_with fail
        go_ret
        exact ⟨by rw [HE.out]; rfl, q, HW.out⟩
  · have hne : ((xs.length : Int) != (ys.length : Int)) = true := by simp; omega
    have HE : Hid (decide (xs = ys) = false) := Lib.hid (by simp; rintro rfl; exact hl rfl)
    clear hl hx hy
    generalize xs.length = l1 at *
    generalize ys.length = l2 at *
    go_enter Tryd.func26, Tryd.ntmps26
    go_wp2_with fail
    go_ret
    exact ⟨by rw [HE.out]; rfl, 0, rfl⟩
theorem infoR : (Tryd.prog.info? 35).map (fun i => (i.zero, i.size, i.bytes)) = some (some (.slice none 0 0), 1, 24) := by kernel_rfl
theorem infoU : (Tryd.prog.info? 30).map (fun i => (i.zero, i.size, i.bytes)) = some (some (.int .u32 0), 1, 4) := by kernel_rfl
theorem cell_new1 (w : World) (x : Value) (t : TypeId) : ∀ (j : Nat) (u : Value), [x][j]? = some u → (w.alloc (.cells #[x] t)).cell? ⟨w.heap.size, j, none⟩ = some u := fun j u h => by
  have := cell_one_new w x t j u h
  rwa [ad_add] at this
theorem own_low {w : World} {base n : Nat} {e : TypeId} {v : Value} {us : List Value} (h : w.ownsRow base e 1 v n us) : ∀ k, v.ownBlock = some k → base ≤ k := fun k hk => by
  rcases h.2 with ⟨rfl, _⟩ | ⟨g, cap, cur, rfl, hg, _⟩
  · simp [Value.ownBlock] at hk
  · have : g = k := by simpa [Value.ownBlock] using hk
    omega
set_option maxHeartbeats 2000000 in
theorem rwith_any {w : World} {G : Nat → Prop} {v u : Value} {rows : List (List Nat)} {xs : List Nat} (h : RR w G v rows) (hx : Rd w G u xs) (hG : ∀ k, w.heap.size ≤ k → G k) (hb : rows.length ≤ 1000000) :
    Calls Tryd.prog 16 #[v, u] w fun r w' => ∃ v', r = .returned v' ∧ RR w' G v' (rows ++ [xs]) ∧ Below w.heap.size w w' := by
  obtain ⟨us, h1, h2, h3, h4⟩ := h
  obtain ⟨i0, hi, hz0, hz1, hz2⟩ := info_parts infoR
  obtain ⟨UB, ud, rfl⟩ := Sl.shape hx
  generalize hun : (w32 xs).length = un at *
  have HUN := Lib.hid hun
  clear hun
  have HS := Lib.hid h1
  have H3 := Lib.hid h3
  have H4 := Lib.hid h4
  have HX := Lib.hid hx
  have HL := Lib.hid h2
  have HG := Lib.hid hG
  have hub : us.length ≤ 1000000 := by omega
  clear h1 h2 h3 h4 hx hG hb
  go_enter Tryd.func16, Tryd.ntmps16
  go_wp2_with (first
    | (at_builtin; refine wpList_append_sl rfl (.tmp 6) (.tmp 7) 28 rfl w.heap.size 35 i0 (.slice none 0 0) 24 Tryd.underlying28 hi hz0 hz1 hz2 rfl _ 0 [] rfl (World.ownsRow_nil _ _ _ _) v rfl us G HS.out H3.out (by unfold maxLen; omega) (by omega) (Nat.le_refl _) ?_; intro v1 w1 ho1 hB1; rw [Nat.zero_add, List.nil_append] at ho1; have HO1 := Lib.hid ho1; have HB1 := Lib.hid hB1; clear ho1 hB1)
    | (at_builtin; refine wpList_append_new rfl (.tmp 9) (.tmp 11) 28 rfl w.heap.size 35 i0 (.slice none 0 0) 1 24 Tryd.underlying28 hi hz0 hz1 hz2 rfl (by decide) v1 us.length us rfl (own_kept_below HO1.out ((Below.refl _ _).alloc (Nat.le_refl _) _)) w1.heap.size 1 [.slice UB un ud] rfl rfl (cell_new1 _ _ _) (by intro y hy; rw [List.mem_singleton.1 hy]; rfl) (by unfold maxLen; omega) (by omega) (by have := HB1.out.size; simp; omega) ?_; intro v2 w2 ho2 hB2; have HO2 := Lib.hid ho2; have HB2 := Lib.hid hB2; clear ho2 hB2))
  go_ret
  have hB : Below w.heap.size w w2 := (HB1.out.alloc (by have := HB1.out.size; omega) _).trans HB2.out
  exact ⟨v2, rfl, RR.snoc HL.out H3.out (fun i y ys hy hys => Sl.keep (H4.out i y ys hy hys) hB) (Sl.own HO2.out fun k hk => HG.out k (own_low HO2.out k hk)) rfl (Sl.keep HX.out hB), hB⟩
/-! ### Records made of numbers -/
def recL (n first : Nat) : List Nat := (List.range n).map fun i => (first + i * 2654435761) % 4294967296
theorem recL_len (n first : Nat) : (recL n first).length = n := by simp [recL]
theorem recL_succ (n first : Nat) : recL (n + 1) first = recL n first ++ [(first + n * 2654435761) % 4294967296] := by simp [recL, List.range_succ]
theorem w32_snoc (xs : List Nat) (x : Nat) : w32 (xs ++ [x]) = w32 xs ++ [.int .u32 (x : Int)] := by simp [w32]
theorem recL_lt (n first : Nat) : ∀ x ∈ recL n first, x < 4294967296 := by
  intro x hx
  simp only [recL, List.mem_map] at hx
  obtain ⟨i, _, rfl⟩ := hx
  exact Nat.mod_lt _ (by decide)
theorem wrap_u32_nat (a : Nat) : IntKind.u32.wrap ((a : Nat) : Int) = ((a % 4294967296 : Nat) : Int) := by
  simp [IntKind.wrap, IntKind.signed, IntKind.bits]
set_option maxHeartbeats 2000000 in
theorem rrecord_any (n : Int) (h0 : -9223372036854775808 ≤ n) (h1 : n ≤ 9223372036854775807) (first : Nat) (hf : first < 4294967296) (w : World) (G : Nat → Prop) (hG : ∀ k, w.heap.size ≤ k → G k) :
    Calls Tryd.prog 14 #[.int .i64 n, .int .u32 (first : Nat)] w fun r w' => ∃ v', r = .returned v' ∧ Rd w' G v' (recL (around n 71).toNat first) ∧ Below w.heap.size w w' := by
  obtain ⟨l, hl, hl71⟩ := around_nat n (m := 71) (by decide)
  obtain ⟨i0, hi, hz0, hz1, hz2⟩ := info_parts infoU
  have HA := Lib.hid (fun W => around_any n 71 h0 h1 (by decide) (by decide) W)
  have hl' : around n 71 = (l : Int) := hl
  rw [hl', Int.toNat_natCast]
  rw [hl'] at HA
  have HG := Lib.hid hG
  clear hl hl' hG h0 h1
  go_enter Tryd.func14, Tryd.ntmps14
  go_wp2_with fail
  go_loopg [5, 6] l (fun g v i wr => ∃ k : Nat, k + g = l ∧ i = .int .i64 (k : Nat) ∧ wr.ownsRow w.heap.size 30 1 v k (w32 (recL k first)) ∧ Below w.heap.size w wr)
  case atStart => exact ⟨0, Nat.zero_add _, rfl, World.ownsRow_nil _ _ _ _, Below.refl _ _⟩
  case round =>
    obtain ⟨k, hg, rfl, hown, hB⟩ := hrel
    have HGG := Lib.hid hg
    have HO := Lib.hid hown
    have HB := Lib.hid hB
    have hkl : k ≤ l := by omega
    clear hg hown hB
    by_cases hlt : k < l
    · have hki : (k : Int) < (l : Int) := by omega
      have HS := Lib.hid (w32_snoc (recL k first) ((first + k * 2654435761) % 4294967296))
      rw [← recL_succ] at HS
      clear hlt
      go_wp2_with fail
      refine (HA.out _).mono ?_
      rintro r w1 ⟨rfl, rfl⟩
      go_wp2_with (at_builtin; refine wpList_append_new rfl (.tmp 13) (.tmp 19) 35 rfl w.heap.size 30 i0 (.int .u32 0) 1 4 Tryd.underlying35 hi hz0 hz1 hz2 rfl (by decide) u5 k (w32 (recL k first)) rfl (own_kept_below HO.out ((Below.refl _ _).alloc (Nat.le_refl _) _)) w1.heap.size 1 [.int .u32 (((first + k * 2654435761) % 4294967296 : Nat) : Int)] rfl rfl (cell_new1 _ _ _) (by intro y hy; rw [List.mem_singleton.1 hy]; rfl) (by unfold maxLen; omega) (by omega) (by have := HB.out.size; simp; omega) ?_; intro v2 w2 ho2 hB2; have HO2 := Lib.hid ho2; have HB2 := Lib.hid hB2; clear ho2 hB2)
      go_roundg (gk - 1)
      case measure => have := HGG.out; omega
      case rel => exact ⟨k + 1, by have := HGG.out; omega, by go_num, by rw [HS.out]; exact HO2.out, (HB.out.alloc HB.out.size _).trans HB2.out⟩
    · have hki : ¬ (k : Int) < (l : Int) := by omega
      obtain rfl : k = l := by omega
      clear hlt
      go_wp2_with fail
      refine (HA.out _).mono ?_
      rintro r w1 ⟨rfl, rfl⟩
      go_wp2_with fail
      go_ret
      exact ⟨_, rfl, Sl.own HO.out fun k hk => HG.out k (own_low HO.out k hk), HB.out⟩
end J
end Go.Proofs.YtnoohhpajoaaoaaDoor
