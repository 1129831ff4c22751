/-
  Package clock: Ticks, CheckLeaps.
-/
import Derived.Test.YtlmbpbhdbgadjaaKSeg
namespace Go.Proofs.Ytlmbpbhdbgadjaa
open Go.RowKit
namespace K
open H
set_option linter.unusedVariables false
set_option maxRecDepth 100000
theorem infoI : (Try.prog.info? 3).map (fun i => (i.zero, i.size, i.bytes)) = some (some (.int .i64 0), 1, 8) := by kernel_rfl
theorem cell_new1 (w : World) (x : Value) (t : TypeId) : ∀ (j : Nat) (u : Value), [x][j]? = some u → (w.alloc (.cells #[x] t)).cell? ⟨w.heap.size, j, none⟩ = some u := fun j u h => by
  match j, h with
  | 0, h => obtain rfl := Option.some.inj h; exact cell_top _ _ _ _
abbrev ints (l : List Int) : List Value := l.map (Value.int .i64)
theorem tk_wrap {t : List Lp} (hs : Sorted t) {c : Int} (hc : I64 c) (k : Nat) : tk t c k = if 0 ≤ wrap64 (c - off t k) ∧ wrap64 (c - off t k) ≤ 1000000 ∧ seg t (wrap64 (c - off t k)) = k then some (wrap64 (c - off t k)) else none := by
  have hb := off_bd hs k
  unfold tk
  generalize off t k = o at *
  by_cases h : I64 (c - o)
  · rw [IntWalk.wrap64_in _ h]
  · rw [if_neg (by intro hh; exact h ⟨by omega, by omega⟩), if_neg (by intro hh; unfold wrap64 at hh; simp only [I64] at h hc; omega)]
theorem own_any {w : World} {base n n' : Nat} {e : TypeId} {v : Value} {xs xs' : List Value} (h : w.ownsRow base e 1 v n xs) (hn : n = n') (hx : xs = xs') : w.ownsRow base e 1 v n' xs' := by subst hn; subst hx; exact h
set_option maxHeartbeats 2000000 in
theorem ticks_any (t : List Lp) (c : Int) (A : Option Addr) (cap B : Nat) (w : World) (hB : B ≤ w.heap.size) (ht : RdsLp w B A t) (hl : t.length < 1000000) (hs : Sorted t) (hc : I64 c) :
    Calls Try.prog 30 #[.slice A t.length cap, .int .i64 c] w fun e w' => ∃ v, e = .returned v ∧ w'.ownsRow w.heap.size 3 1 v (tks t c (t.length + 1)).length (ints (tks t c (t.length + 1))) ∧ Below w.heap.size w w' := by
  obtain ⟨i0, hi, hz0, hz1, hz2⟩ := info_parts infoI
  have HO : Hid (∀ k W, k ≤ t.length → Below w.heap.size w W → Calls Try.prog 52 #[.slice A t.length cap, .int .i64 (k : Nat)] W fun e w' => e = .returned (.int .i64 (off t k)) ∧ w' = W) :=
    Lib.hid (fun k W hk hW => offset_any t k A cap B W (ht.below (hW.mono hB)) hl hk)
  have HS : Hid (∀ n W, Below w.heap.size w W → Calls Try.prog 53 #[.slice A t.length cap, .int .i64 n] W fun e w' => e = .returned (.int .i64 (seg t n : Nat)) ∧ Below W.heap.size W w') :=
    Lib.hid (fun n W hW => segment_any t n A cap B W (Nat.le_trans hB hW.size) (ht.below (hW.mono hB)) hl hs.up)
  have HK := Lib.hid (fun k => tk_wrap hs hc k)
  have HX := Lib.hid (fun k => tks_succ t c k)
  have HL := Lib.hid (fun k => tks_len t c k)
  clear ht hB hs hc
  generalize hlen : t.length = l at *
  clear hlen
  go_enter Try.func30, Try.ntmps30
  go_wp2_with fail
  go_loopg [5, 11] (l + 1) (fun g v i wr => ∃ k : Nat, k + g = l + 1 ∧ i = .int .i64 (k : Nat) ∧ wr.ownsRow w.heap.size 3 1 v (tks t c k).length (ints (tks t c k)) ∧ Below w.heap.size w wr)
  case atStart => exact ⟨0, Nat.zero_add _, rfl, World.ownsRow_nil _ _ _ _, Below.refl _ _⟩
  case round =>
    obtain ⟨k, hg, rfl, hown, hB⟩ := hrel
    have HG := Lib.hid hg
    have HW := Lib.hid hown
    have HB := Lib.hid hB
    have HLk := Lib.hid (HL.out k)
    have hkl : k ≤ l + 1 := by omega
    clear hg hown hB
    by_cases hlt : k < l + 1
    · have hki : (k : Int) < (l : Int) + 1 := by omega
      have hok := HO.out k wr (by omega) HB.out
      have hX := HX.out k
      have hK := HK.out k
      have hTT := isTick_any (wrap64 (c - off t k)) wr
      have hSS := HS.out (wrap64 (c - off t k)) wr HB.out
      generalize off t k = o at *
      generalize hm : wrap64 (c - o) = m at hK hTT hSS
      by_cases hT : 0 ≤ m ∧ m ≤ 1000000
      · rw [show (decide (0 ≤ m) && decide (m ≤ 1000000)) = true by simp [hT.1, hT.2]] at hTT
        by_cases hsg : seg t m = k
        · rw [if_pos ⟨hT.1, hT.2, hsg⟩] at hK
          rw [hK] at hX
          rw [hsg] at hSS
          rw [← hm] at hTT hSS
          have HOK := Lib.hid hok
          have HTT := Lib.hid hTT
          have HSS := Lib.hid hSS
          have HXX := Lib.hid hX
          have HM := Lib.hid hm
          clear hok hTT hSS hX hK hm hT hsg hlt
          go_wp2_with (first
            | (go_at_call 52; refine HOK.out.mono ?_; rintro e w2 ⟨rfl, rfl⟩)
            | (go_at_call 54; refine HTT.out.mono ?_; rintro e w3 ⟨rfl, rfl⟩)
            | (go_at_call 53; refine HSS.out.mono ?_; rintro e w4 ⟨rfl, hB4⟩; have HB4 := Lib.hid hB4; clear hB4)
            | (at_builtin; refine wpList_append_new rfl (.tmp 28) (.tmp 30) 42 rfl w.heap.size 3 i0 (.int .i64 0) 1 8 Try.underlying42 hi hz0 hz1 hz2 rfl (by decide) u5 (tks t c k).length (ints (tks t c k)) rfl (own_kept_below (own_kept_below HW.out HB4.out) ((Below.refl _ _).alloc (Nat.le_refl _) _)) w4.heap.size 1 [.int .i64 (wrap64 (c - o))] rfl rfl (cell_new1 _ _ _) (by intro y hy; rw [List.mem_singleton.1 hy]; rfl) (by have := HLk.out; unfold maxLen; omega) (by have := HLk.out; omega) (by have := HB.out.size; have := HB4.out.size; simp; omega) ?_; intro v2 w5 ho2 hB5; have HO2 := Lib.hid ho2; have HB5 := Lib.hid hB5; clear ho2 hB5))
          go_roundg (gk - 1)
          case measure => have := HG.out; omega
          case rel => exact ⟨k + 1, by have := HG.out; omega, by go_num, own_any HO2.out (by rw [HXX.out]; simp) (by rw [HXX.out, HM.out]; simp [ints]), ((HB.out.trans (HB4.out.mono HB.out.size)).alloc (by have := HB.out.size; have := HB4.out.size; omega) _).trans HB5.out⟩
        · rw [if_neg (by intro h; exact hsg h.2.2)] at hK
          rw [hK] at hX
          have hne : ¬ (((seg t m : Nat) : Int) = (k : Int)) := by omega
          generalize seg t m = sg at *
          rw [← hm] at hTT hSS
          have HOK := Lib.hid hok
          have HTT := Lib.hid hTT
          have HSS := Lib.hid hSS
          have HXX := Lib.hid hX
          clear hok hTT hSS hX hK hm hT hsg hlt
          go_wp2_with (first
            | (go_at_call 52; refine HOK.out.mono ?_; rintro e w2 ⟨rfl, rfl⟩)
            | (go_at_call 54; refine HTT.out.mono ?_; rintro e w3 ⟨rfl, rfl⟩)
            | (go_at_call 53; refine HSS.out.mono ?_; rintro e w4 ⟨rfl, hB4⟩; have HB4 := Lib.hid hB4; clear hB4))
          go_roundg (gk - 1)
          case measure => have := HG.out; omega
          case rel => exact ⟨k + 1, by have := HG.out; omega, by go_num, own_any (own_kept_below HW.out HB4.out) (by rw [HXX.out]; simp) (by rw [HXX.out]; simp [ints]), HB.out.trans (HB4.out.mono HB.out.size)⟩
      · rw [show (decide (0 ≤ m) && decide (m ≤ 1000000)) = false by simp; omega] at hTT
        rw [if_neg (by intro h; exact hT ⟨h.1, h.2.1⟩)] at hK
        rw [hK] at hX
        rw [← hm] at hTT
        have HOK := Lib.hid hok
        have HTT := Lib.hid hTT
        have HXX := Lib.hid hX
        clear hok hTT hSS hX hK hm hT hlt
        go_wp2_with (first
          | (go_at_call 52; refine HOK.out.mono ?_; rintro e w2 ⟨rfl, rfl⟩)
          | (go_at_call 54; refine HTT.out.mono ?_; rintro e w3 ⟨rfl, rfl⟩))
        go_roundg (gk - 1)
        case measure => have := HG.out; omega
        case rel => exact ⟨k + 1, by have := HG.out; omega, by go_num, own_any HW.out (by rw [HXX.out]; simp) (by rw [HXX.out]; simp [ints]), HB.out⟩
    · have hki : ¬ (k : Int) < (l : Int) + 1 := by omega
      obtain rfl : k = l + 1 := by omega
      clear hlt
      go_wp2_with fail
      go_ret
      exact ⟨_, rfl, HW.out, HB.out⟩
theorem bad_range {t : List Lp} {k : Nat} {x : Lp} (hx : t[k]? = some x) (h : x.pos < 0 ∨ 1000000 < x.pos ∨ x.off < -100 ∨ 100 < x.off) : bad t k = 5 := by
  unfold bad; rw [hx]; exact if_pos h
theorem bad_zero {t : List Lp} {x : Lp} (hx : t[0]? = some x) (h : ¬ (x.pos < 0 ∨ 1000000 < x.pos ∨ x.off < -100 ∨ 100 < x.off)) : bad t 0 = 0 := by
  unfold bad; rw [hx]; exact if_neg h
theorem bad_succ {t : List Lp} {j : Nat} {x y : Lp} (hx : t[j + 1]? = some x) (hy : t[j]? = some y) (h : ¬ (x.pos < 0 ∨ 1000000 < x.pos ∨ x.off < -100 ∨ 100 < x.off)) : bad t (j + 1) = if x.pos ≤ y.pos then 23 else 0 := by
  unfold bad; rw [hx]; dsimp only; rw [if_neg h, hy]
theorem bad_upto {t : List Lp} {k : Nat} (h : Hid (∀ j, j < k → bad t j = 0)) (hk : bad t k = 0) : Hid (∀ j, j < k + 1 → bad t j = 0) := Lib.hid (fun j hj => by
  rcases Nat.lt_or_ge j k with h1 | h1
  · exact h j h1
  · obtain rfl : j = k := by omega
    exact hk)
set_option maxHeartbeats 2000000 in
theorem check_any (t : List Lp) (A : Option Addr) (cap B : Nat) (w : World) (hB : B ≤ w.heap.size) (ht : RdsLp w B A t) (hl : t.length < 140737488355328) :
    Calls Try.prog 35 #[.slice A t.length cap] w fun e w' => e = .returned (.int .i64 (chk t)) ∧ Below w.heap.size w w' := by
  by_cases h32 : 32 < t.length
  · have he : chk t = 2 := by unfold chk; rw [if_pos h32]
    rw [he]
    clear he ht
    generalize t.length = l at *
    have hz : (32 : Int) < (l : Int) := by omega
    go_enter Try.func35, Try.ntmps35
    go_wp2_with fail
    go_ret
    exact ⟨rfl, Below.refl _ _⟩
  · have HT := Lib.hid ht
    have HA := Lib.hid (fun m e (h1 : m < t.length) (h2 : ∀ j, j < m → bad t j = 0) (h3 : bad t m = e) (h4 : e ≠ 0) => chk_at (t := t) (by omega) h1 h2 h3 h4)
    have HOK := Lib.hid (fun (h2 : ∀ j, j < t.length → bad t j = 0) => chk_ok (t := t) (by omega) h2)
    have HGET := Lib.hid (fun k (hk : k < t.length) => (⟨t[k], List.getElem?_eq_getElem hk⟩ : ∃ x, t[k]? = some x))
    clear ht
    generalize chk t = ck at *
    generalize hlen : t.length = l at *
    clear hlen
    have hz : ¬ (32 : Int) < (l : Int) := by omega
    clear hl
    go_enter Try.func35, Try.ntmps35
    go_wp2_with fail
    go_loopg [10] l (fun g i wr => ∃ k : Nat, k + g = l ∧ i = .int .i64 (k : Nat) ∧ Hid (∀ j, j < k → bad t j = 0) ∧ Below w.heap.size w wr)
    case atStart => exact ⟨0, Nat.zero_add _, rfl, Lib.hid (fun j hj => absurd hj (Nat.not_lt_zero _)), Below.refl _ _⟩
    case round =>
      obtain ⟨k, hg, rfl, HBAD, hB⟩ := hrel
      have HG := Lib.hid hg
      have HB := Lib.hid hB
      have hkl : k ≤ l := by omega
      clear hg hB
      by_cases hlt : k < l
      · have hki : (k : Int) < (l : Int) := by omega
        obtain ⟨x, hx⟩ := HGET.out k hlt
        obtain ⟨ad, hA, hadB, hr⟩ := (HT.out.below (HB.out.mono (by omega))) k x hx
        subst hA
        have c0 := hr.c0
        have c1 := hr.c1
        have HIT := Lib.hid (fun W => isTick_any x.pos W)
        obtain ⟨xp, xo⟩ := x
        dsimp only at c0 c1 HIT
        have bel1 : Below w.heap.size w (wr.alloc (.cells #[.int .i64 xp, .int .i64 xo] 69)) := HB.out.alloc HB.out.size _
        by_cases hrng : xp < 0 ∨ 1000000 < xp ∨ xo < -100 ∨ 100 < xo
        · have hb := bad_range hx hrng
          have hck := HA.out k 5 hlt HBAD.out hb (by decide)
          have HCK := Lib.hid hck
          have hcase : (¬ (0 ≤ xp ∧ xp ≤ 1000000)) ∨ ((0 ≤ xp ∧ xp ≤ 1000000) ∧ xo < -100) ∨ ((0 ≤ xp ∧ xp ≤ 1000000) ∧ ¬ xo < -100 ∧ 100 < xo) := by omega
          have BEL := Lib.hid bel1
          clear hb hck hrng hr hx hlt bel1
          rcases hcase with g | ⟨g, h1⟩ | ⟨g, h1, h2⟩
          · rw [show (decide (0 ≤ xp) && decide (xp ≤ 1000000)) = false by simp; omega] at HIT
            clear g
            go_wp2_with (go_at_call 54; refine (HIT.out _).mono ?_; rintro e w2 ⟨rfl, rfl⟩)
            go_ret
            exact ⟨by rw [HCK.out]; rfl, BEL.out⟩
          · rw [show (decide (0 ≤ xp) && decide (xp ≤ 1000000)) = true by simp; omega] at HIT
            clear g
            go_wp2_with (go_at_call 54; refine (HIT.out _).mono ?_; rintro e w2 ⟨rfl, rfl⟩)
            go_ret
            exact ⟨by rw [HCK.out]; rfl, BEL.out⟩
          · rw [show (decide (0 ≤ xp) && decide (xp ≤ 1000000)) = true by simp; omega] at HIT
            clear g
            go_wp2_with (go_at_call 54; refine (HIT.out _).mono ?_; rintro e w2 ⟨rfl, rfl⟩)
            go_ret
            exact ⟨by rw [HCK.out]; rfl, BEL.out⟩
        · have h1 : ¬ xo < -100 := by omega
          have h2 : ¬ 100 < xo := by omega
          rw [show (decide (0 ≤ xp) && decide (xp ≤ 1000000)) = true by simp; omega] at HIT
          have BEL := Lib.hid bel1
          cases k with
          | zero =>
            have hb := Lib.hid (bad_zero hx hrng)
            have hk0 : ¬ ((0 : Int) < ((0 : Nat) : Int)) := by omega
            have ha0 : ad.add (0 * 2) = ad := by simp [Addr.add]
            rw [ha0] at c0 c1
            clear hrng hr hx hlt bel1
            go_wp2_with (go_at_call 54; refine (HIT.out _).mono ?_; rintro e w2 ⟨rfl, rfl⟩)
            go_region
            all_goals go_wp2_with fail
            all_goals go_roundg (gk - 1)
            case measure => have := HG.out; omega
            case rel => exact ⟨1, by have := HG.out; omega, by go_num, bad_upto HBAD hb.out, BEL.out.drew⟩
          | succ j =>
            obtain ⟨y, hy⟩ := HGET.out j (by omega)
            obtain ⟨ad2, hA2, hadB2, hr2⟩ := (HT.out.below (HB.out.mono (by omega))) j y hy
            obtain rfl := Option.some.inj hA2
            have d0 : (wr.alloc (.cells #[.int .i64 xp, .int .i64 xo] 69)).cell? (ad.add (j * 2)) = some (.int .i64 y.pos) := cell_under _ hr2.c0
            have hb := bad_succ hx hy hrng
            obtain ⟨yp, yo⟩ := y
            dsimp only at d0 hb
            have hk1 : ((j + 1 : Nat) : Int) - 1 = (j : Int) := by omega
            have hk0 : (0 : Int) < ((j + 1 : Nat) : Int) := by omega
            have hj1 : (j : Int) < (l : Int) := by omega
            by_cases hle : xp ≤ yp
            · rw [if_pos hle] at hb
              have hck := HA.out (j + 1) 23 hlt HBAD.out hb (by decide)
              have HCK := Lib.hid hck
              clear hb hck hrng hr hr2 hx hy hlt bel1
              go_wp2_with (go_at_call 54; refine (HIT.out _).mono ?_; rintro e w2 ⟨rfl, rfl⟩)
              go_region
              all_goals go_wp2_with fail
              all_goals go_ret
              all_goals exact ⟨by rw [HCK.out]; rfl, BEL.out.drew⟩
            · rw [if_neg hle] at hb
              have HBB := Lib.hid hb
              clear hb hrng hr hr2 hx hy hlt bel1
              go_wp2_with (go_at_call 54; refine (HIT.out _).mono ?_; rintro e w2 ⟨rfl, rfl⟩)
              go_region
              all_goals go_wp2_with fail
              all_goals go_roundg (gk - 1)
              case measure => have := HG.out; omega
              case rel => exact ⟨j + 2, by have := HG.out; omega, by go_num, bad_upto HBAD HBB.out, BEL.out.drew⟩
      · have hki : ¬ (k : Int) < (l : Int) := by omega
        obtain rfl : k = l := by omega
        clear hlt
        have HCK := Lib.hid (HOK.out HBAD.out)
        go_wp2_with fail
        go_ret
        exact ⟨by rw [HCK.out]; rfl, HB.out⟩
end K
end Go.Proofs.Ytlmbpbhdbgadjaa
