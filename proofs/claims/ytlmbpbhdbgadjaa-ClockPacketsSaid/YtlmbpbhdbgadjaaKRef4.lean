/-
  The specification's Ticks and Check; Has and SameInts of the shared helpers. Written by gen_k4.py.
-/
import Derived.Test.YtlmbpbhdbgadjaaKRef3
namespace Go.Proofs.Ytlmbpbhdbgadjaa
open Go.RowKit
namespace K
open H
set_option linter.unusedVariables false
set_option maxRecDepth 100000
/-- Where a segment begins and ends. -/
def lowP (t : List Lp) (n : Int) : Nat → Prop
  | 0 => 0 ≤ n
  | j + 1 => ∀ y, t[j]? = some y → y.pos ≤ n
def uppP (t : List Lp) (n : Int) (i : Nat) : Prop := match t[i]? with | some x => n < x.pos | none => n ≤ 1000000
theorem low_succ {t : List Lp} {n : Int} {j : Nat} {y : Lp} (h : t[j]? = some y) : lowP t n (j + 1) ↔ y.pos ≤ n :=
  ⟨fun k => k y h, fun k y' h' => by rw [h] at h'; obtain rfl := Option.some.inj h'; exact k⟩
theorem upp_some {t : List Lp} {n : Int} {i : Nat} {x : Lp} (h : t[i]? = some x) : uppP t n i ↔ n < x.pos := by unfold uppP; rw [h]
theorem upp_none {t : List Lp} {n : Int} {i : Nat} (h : t[i]? = none) : uppP t n i ↔ n ≤ 1000000 := by unfold uppP; rw [h]
theorem seg_iff {t : List Lp} (hs : Sorted t) {n : Int} {i : Nat} (hi : i ≤ t.length) : (0 ≤ n ∧ n ≤ 1000000 ∧ seg t n = i) ↔ (lowP t n i ∧ uppP t n i) := by
  obtain ⟨a, b⟩ := seg_at hs.up n
  constructor
  · rintro ⟨h0, h1, hsg⟩
    refine ⟨?_, ?_⟩
    · cases i with
      | zero => exact h0
      | succ j => exact fun y hy => a j y hy (by omega)
    · cases hx : t[i]? with
      | none => exact (upp_none hx).2 h1
      | some x => exact (upp_some hx).2 (b _ x hx (by omega))
  · rintro ⟨h0, h1⟩
    have k1 : i ≤ seg t n ∧ 0 ≤ n := by
      cases i with
      | zero => exact ⟨Nat.zero_le _, h0⟩
      | succ j =>
        obtain ⟨y, hy⟩ : ∃ y, t[j]? = some y := ⟨t[j], List.getElem?_eq_getElem (by omega)⟩
        have hyn := (low_succ hy).1 h0
        have := (seg_min hs n hy).1 hyn
        have := hs.rng y (List.mem_of_getElem? hy)
        omega
    have k2 : seg t n ≤ i ∧ n ≤ 1000000 := by
      cases hx : t[i]? with
      | none => have := List.getElem?_eq_none_iff.1 hx; have := seg_le t n; exact ⟨by omega, (upp_none hx).1 h1⟩
      | some x =>
        have hxn := (upp_some hx).1 h1
        have := hs.rng x (List.mem_of_getElem? hx)
        refine ⟨?_, by omega⟩
        rcases Nat.lt_or_ge i (seg t n) with h | h
        · have := (seg_min hs n hx).2 h; omega
        · exact h
    exact ⟨k1.2, k2.2, by omega⟩
theorem tk_yes {t : List Lp} {c : Int} {i : Nat} (h : 0 ≤ c - off t i ∧ c - off t i ≤ 1000000 ∧ seg t (c - off t i) = i) : tk t c i = some (c - off t i) := if_pos h
theorem tk_no {t : List Lp} {c : Int} {i : Nat} (h : ¬ (0 ≤ c - off t i ∧ c - off t i ≤ 1000000 ∧ seg t (c - off t i) = i)) : tk t c i = none := if_neg h
theorem tks_far {t : List Lp} (hs : Sorted t) {c : Int} (h : c < -100 ∨ 1000100 < c) : ∀ k, tks t c k = []
  | 0 => rfl
  | k + 1 => by
    have hb := off_bd hs k
    rw [tks_succ, tks_far hs h k, tk_no (by intro hh; omega)]
    rfl
set_option maxHeartbeats 4000000 in
theorem rticks_any (t : List Lp) (c : Int) (A : Option Addr) (cap B : Nat) (w : World) (hB : B ≤ w.heap.size) (ht : RdsLp w B A t) (hl : t.length < 1000000) (hs : Sorted t) (hc : I64 c) :
    Calls Try.prog 33 #[.slice A t.length cap, .int .i64 c] w fun e w' => ∃ v, e = .returned v ∧ w'.ownsRow w.heap.size 3 1 v (tks t c (t.length + 1)).length (ints (tks t c (t.length + 1))) ∧ Below w.heap.size w w' := by
  obtain ⟨i0, hi, hz0, hz1, hz2⟩ := info_parts infoI
  by_cases hfar : c < -100 ∨ 1000100 < c
  · rw [tks_far hs hfar]
    clear ht hs hB hc
    generalize t.length = l at *
    by_cases hlo : c < -100
    · clear hfar
      go_enter Try.func33, Try.ntmps33
      go_wp2_with fail
      go_ret
      exact ⟨_, rfl, World.ownsRow_nil _ _ _ _, Below.refl _ _⟩
    · have hhi : 1000100 < c := by omega
      clear hfar
      go_enter Try.func33, Try.ntmps33
      go_wp2_with fail
      go_ret
      exact ⟨_, rfl, World.ownsRow_nil _ _ _ _, Below.refl _ _⟩
  · have hlo : ¬ c < -100 := by omega
    have hhi : ¬ 1000100 < c := by omega
    have HT := Lib.hid ht
    have HX := Lib.hid (fun k => tks_succ t c k)
    have HL := Lib.hid (fun k => tks_len t c k)
    have HGET := Lib.hid (fun k (hk : k < t.length) => (⟨t[k], List.getElem?_eq_getElem hk⟩ : ∃ x, t[k]? = some x))
    have HNONE := Lib.hid (fun k (hk : t.length ≤ k) => List.getElem?_eq_none_iff.2 hk)
    have HSI := Lib.hid (fun n i (hi : i ≤ t.length) => seg_iff hs (n := n) hi)
    have HRG := Lib.hid (fun k x (hx : t[k]? = some x) => hs.rng x (List.mem_of_getElem? hx))
    clear hfar ht hs hc
    generalize hlen : t.length = l at *
    clear hlen
    go_enter Try.func33, Try.ntmps33
    go_wp2_with fail
    go_loopg [5, 6] (l + 1) (fun g v i wr => ∃ k : Nat, k + g = l + 1 ∧ i = .int .i64 (k : Nat) ∧ wr.ownsRow w.heap.size 3 1 v (tks t c k).length (ints (tks t c k)) ∧ Below w.heap.size w wr)
    case atStart => exact ⟨0, Nat.zero_add _, rfl, World.ownsRow_nil _ _ _ _, Below.refl _ _⟩
    case round =>
      obtain ⟨k, hg, rfl, hown, hB2⟩ := hrel
      have HG := Lib.hid hg
      have HW := Lib.hid hown
      have HB := Lib.hid hB2
      have HLk := Lib.hid (HL.out k)
      have hkl : k ≤ l + 1 := by omega
      clear hg hown hB2
      by_cases hlt : k < l + 1
      · have HLT := Lib.hid hlt
        have hki : (k : Int) ≤ (l : Int) := by omega
        have HXK := Lib.hid (HX.out k)
        cases k with
        | zero =>
          have hk0 : ¬ ((0 : Int) < ((0 : Nat) : Int)) := by omega
          have HOF : Hid (c - off t 0 = c) := Lib.hid (by rw [off_zero]; omega)
          rcases Nat.eq_zero_or_pos l with hl0 | hl0
          · subst hl0
            have hn := HNONE.out 0 (by omega)
            have hsave : True := trivial
            have HIF : Hid ((lowP t (c - off t 0) 0 ∧ uppP t (c - off t 0) 0) ↔ (0 ≤ c ∧ c < 1000001)) := Lib.hid ⟨fun h => ⟨by have := h.1; rw [HOF.out] at this; exact this, by have := (upp_none hn).1 h.2; rw [HOF.out] at this; omega⟩, fun h => ⟨by rw [HOF.out]; exact h.1, (upp_none hn).2 (by rw [HOF.out]; omega)⟩⟩
            clear hn
            by_cases hlo2 : 0 ≤ c
            · by_cases hup2 : c < 1000001
              · have HV := Lib.hid (tk_yes ((HSI.out _ _ (by omega)).2 (HIF.out.2 ⟨hlo2, hup2⟩)))
                have HOF2 := Lib.hid HOF.out
                clear hsave
                go_wp2_with (at_builtin; refine wpList_append_new rfl (.tmp 57) (.tmp 59) 42 rfl w.heap.size 3 i0 (.int .i64 0) 1 8 Try.underlying42 hi hz0 hz1 hz2 rfl (by decide) u5 (tks t c 0).length (ints (tks t c 0)) rfl (own_kept_below HW.out ((Below.refl _ _).alloc (Nat.le_refl _) _)) wr.heap.size 1 [.int .i64 (c)] rfl rfl (cell_new1 _ _ _) (by intro y hy; rw [List.mem_singleton.1 hy]; rfl) (by have := HLk.out; unfold maxLen; omega) (by have := HLk.out; omega) (by have := HB.out.size; simp; omega) ?_; intro v2 w5 ho2 hB5; have HO2 := Lib.hid ho2; have HB5 := Lib.hid hB5; clear ho2 hB5)
                go_roundg (gk - 1)
                case measure => have := HG.out; have := HLT.out; omega
                case rel => exact ⟨0 + 1, by have := HG.out; have := HLT.out; omega, by go_num, own_any HO2.out (by rw [HXK.out, HV.out]; simp) (by rw [HXK.out, HV.out, HOF.out]; simp [ints]), (HB.out.alloc HB.out.size _).trans HB5.out⟩
              · have HV := Lib.hid (tk_no fun h => hup2 (HIF.out.1 ((HSI.out _ _ (by omega)).1 h)).2)
                clear hsave
                go_wp2_with fail
                go_roundg (gk - 1)
                case measure => have := HG.out; have := HLT.out; omega
                case rel => exact ⟨0 + 1, by have := HG.out; have := HLT.out; omega, by go_num, own_any HW.out (by rw [HXK.out, HV.out]; simp) (by rw [HXK.out, HV.out]; simp [ints]), HB.out⟩
            · have HV := Lib.hid (tk_no fun h => hlo2 (HIF.out.1 ((HSI.out _ _ (by omega)).1 h)).1)
              clear hsave
              go_wp2_with fail
              go_roundg (gk - 1)
              case measure => have := HG.out; have := HLT.out; omega
              case rel => exact ⟨0 + 1, by have := HG.out; have := HLT.out; omega, by go_num, own_any HW.out (by rw [HXK.out, HV.out]; simp) (by rw [HXK.out, HV.out]; simp [ints]), HB.out⟩
          · have hl1 : (0 : Int) < (l : Int) := by omega
            obtain ⟨x, hx⟩ := HGET.out 0 hl0
            obtain ⟨ad, rfl, _, hr⟩ := (HT.out.below (HB.out.mono hB)) 0 x hx
            have c0 := hr.c0
            have ha0 : ad.add (0 * 2) = ad := by simp [Addr.add]
            rw [ha0] at c0
            obtain ⟨xp, xo⟩ := x
            dsimp only at c0
            have HIF : Hid ((lowP t (c - off t 0) 0 ∧ uppP t (c - off t 0) 0) ↔ (0 ≤ c ∧ c < xp)) := Lib.hid ⟨fun h => ⟨by have := h.1; rw [HOF.out] at this; exact this, by have := (upp_some hx).1 h.2; rw [HOF.out] at this; exact this⟩, fun h => ⟨by rw [HOF.out]; exact h.1, (upp_some hx).2 (by rw [HOF.out]; exact h.2)⟩⟩
            have hsave : True := trivial
            clear hr hx ha0
            by_cases hlo2 : 0 ≤ c
            · by_cases hup2 : c < xp
              · have HV := Lib.hid (tk_yes ((HSI.out _ _ (by omega)).2 (HIF.out.2 ⟨hlo2, hup2⟩)))
                have HOF2 := Lib.hid HOF.out
                clear hsave
                go_wp2_with (at_builtin; refine wpList_append_new rfl (.tmp 57) (.tmp 59) 42 rfl w.heap.size 3 i0 (.int .i64 0) 1 8 Try.underlying42 hi hz0 hz1 hz2 rfl (by decide) u5 (tks t c 0).length (ints (tks t c 0)) rfl (own_kept_below HW.out ((Below.refl _ _).alloc (Nat.le_refl _) _)) wr.heap.size 1 [.int .i64 (c)] rfl rfl (cell_new1 _ _ _) (by intro y hy; rw [List.mem_singleton.1 hy]; rfl) (by have := HLk.out; unfold maxLen; omega) (by have := HLk.out; omega) (by have := HB.out.size; simp; omega) ?_; intro v2 w5 ho2 hB5; have HO2 := Lib.hid ho2; have HB5 := Lib.hid hB5; clear ho2 hB5)
                go_roundg (gk - 1)
                case measure => have := HG.out; have := HLT.out; omega
                case rel => exact ⟨0 + 1, by have := HG.out; have := HLT.out; omega, by go_num, own_any HO2.out (by rw [HXK.out, HV.out]; simp) (by rw [HXK.out, HV.out, HOF.out]; simp [ints]), (HB.out.alloc HB.out.size _).trans HB5.out⟩
              · have HV := Lib.hid (tk_no fun h => hup2 (HIF.out.1 ((HSI.out _ _ (by omega)).1 h)).2)
                clear hsave
                go_wp2_with fail
                go_roundg (gk - 1)
                case measure => have := HG.out; have := HLT.out; omega
                case rel => exact ⟨0 + 1, by have := HG.out; have := HLT.out; omega, by go_num, own_any HW.out (by rw [HXK.out, HV.out]; simp) (by rw [HXK.out, HV.out]; simp [ints]), HB.out⟩
            · have HV := Lib.hid (tk_no fun h => hlo2 (HIF.out.1 ((HSI.out _ _ (by omega)).1 h)).1)
              clear hsave
              go_wp2_with fail
              go_roundg (gk - 1)
              case measure => have := HG.out; have := HLT.out; omega
              case rel => exact ⟨0 + 1, by have := HG.out; have := HLT.out; omega, by go_num, own_any HW.out (by rw [HXK.out, HV.out]; simp) (by rw [HXK.out, HV.out]; simp [ints]), HB.out⟩
        | succ j =>
          have hk0 : (0 : Int) < ((j + 1 : Nat) : Int) := by omega
          have hj1 : ((j + 1 : Nat) : Int) - 1 = (j : Int) := by omega
          have hj2 : (j : Int) < (l : Int) := by omega
          obtain ⟨y, hy⟩ := HGET.out j (by omega)
          obtain ⟨ad, rfl, _, hr⟩ := (HT.out.below (HB.out.mono hB)) j y hy
          have d0 := hr.c0
          have d1 := hr.c1
          have hyr := HRG.out j y hy
          have HOF0 := Lib.hid (off_succ hy)
          obtain ⟨yp, yo⟩ := y
          dsimp only at d0 d1 HOF0 hyr
          have HOF : Hid (c - off t (j + 1) = c - yo) := Lib.hid (by rw [HOF0.out])
          rcases Nat.lt_or_ge (j + 1) l with hjl | hjl
          · have hl1 : ((j + 1 : Nat) : Int) < (l : Int) := by omega
            obtain ⟨x, hx⟩ := HGET.out (j + 1) hjl
            obtain ⟨ad2, hA2, _, hr2⟩ := (HT.out.below (HB.out.mono hB)) (j + 1) x hx
            obtain rfl := Option.some.inj hA2
            have c0 := hr2.c0
            obtain ⟨xp, xo⟩ := x
            dsimp only at c0
            have HIF : Hid ((lowP t (c - off t (j + 1)) (j + 1) ∧ uppP t (c - off t (j + 1)) (j + 1)) ↔ (yp ≤ c - yo ∧ c - yo < xp)) := Lib.hid ⟨fun h => ⟨by have := (low_succ hy).1 h.1; rw [HOF.out] at this; exact this, by have := (upp_some hx).1 h.2; rw [HOF.out] at this; exact this⟩, fun h => ⟨(low_succ hy).2 (by rw [HOF.out]; exact h.1), (upp_some hx).2 (by rw [HOF.out]; exact h.2)⟩⟩
            have hsave : True := trivial
            clear hr hr2 hx hy
            by_cases hlo2 : yp ≤ c - yo
            · by_cases hup2 : c - yo < xp
              · have HV := Lib.hid (tk_yes ((HSI.out _ _ (by omega)).2 (HIF.out.2 ⟨hlo2, hup2⟩)))
                have HOF2 := Lib.hid HOF.out
                clear hsave
                go_wp2_with (at_builtin; refine wpList_append_new rfl (.tmp 57) (.tmp 59) 42 rfl w.heap.size 3 i0 (.int .i64 0) 1 8 Try.underlying42 hi hz0 hz1 hz2 rfl (by decide) u5 (tks t c (j + 1)).length (ints (tks t c (j + 1))) rfl (own_kept_below HW.out ((Below.refl _ _).alloc (Nat.le_refl _) _)) wr.heap.size 1 [.int .i64 (c - yo)] rfl rfl (cell_new1 _ _ _) (by intro y hy; rw [List.mem_singleton.1 hy]; rfl) (by have := HLk.out; unfold maxLen; omega) (by have := HLk.out; omega) (by have := HB.out.size; simp; omega) ?_; intro v2 w5 ho2 hB5; have HO2 := Lib.hid ho2; have HB5 := Lib.hid hB5; clear ho2 hB5)
                go_roundg (gk - 1)
                case measure => have := HG.out; have := HLT.out; omega
                case rel => exact ⟨(j + 1) + 1, by have := HG.out; have := HLT.out; omega, by go_num, own_any HO2.out (by rw [HXK.out, HV.out]; simp) (by rw [HXK.out, HV.out, HOF.out]; simp [ints]), (HB.out.alloc HB.out.size _).trans HB5.out⟩
              · have HV := Lib.hid (tk_no fun h => hup2 (HIF.out.1 ((HSI.out _ _ (by omega)).1 h)).2)
                clear hsave
                go_wp2_with fail
                go_roundg (gk - 1)
                case measure => have := HG.out; have := HLT.out; omega
                case rel => exact ⟨(j + 1) + 1, by have := HG.out; have := HLT.out; omega, by go_num, own_any HW.out (by rw [HXK.out, HV.out]; simp) (by rw [HXK.out, HV.out]; simp [ints]), HB.out⟩
            · have HV := Lib.hid (tk_no fun h => hlo2 (HIF.out.1 ((HSI.out _ _ (by omega)).1 h)).1)
              clear hsave
              go_wp2_with fail
              go_roundg (gk - 1)
              case measure => have := HG.out; have := HLT.out; omega
              case rel => exact ⟨(j + 1) + 1, by have := HG.out; have := HLT.out; omega, by go_num, own_any HW.out (by rw [HXK.out, HV.out]; simp) (by rw [HXK.out, HV.out]; simp [ints]), HB.out⟩
          · have hl1 : ¬ ((j + 1 : Nat) : Int) < (l : Int) := by omega
            have hn := HNONE.out (j + 1) hjl
            have HIF : Hid ((lowP t (c - off t (j + 1)) (j + 1) ∧ uppP t (c - off t (j + 1)) (j + 1)) ↔ (yp ≤ c - yo ∧ c - yo < 1000001)) := Lib.hid ⟨fun h => ⟨by have := (low_succ hy).1 h.1; rw [HOF.out] at this; exact this, by have := (upp_none hn).1 h.2; rw [HOF.out] at this; omega⟩, fun h => ⟨(low_succ hy).2 (by rw [HOF.out]; exact h.1), (upp_none hn).2 (by rw [HOF.out]; omega)⟩⟩
            have hsave : True := trivial
            clear hr hn hy
            by_cases hlo2 : yp ≤ c - yo
            · by_cases hup2 : c - yo < 1000001
              · have HV := Lib.hid (tk_yes ((HSI.out _ _ (by omega)).2 (HIF.out.2 ⟨hlo2, hup2⟩)))
                have HOF2 := Lib.hid HOF.out
                clear hsave
                go_wp2_with (at_builtin; refine wpList_append_new rfl (.tmp 57) (.tmp 59) 42 rfl w.heap.size 3 i0 (.int .i64 0) 1 8 Try.underlying42 hi hz0 hz1 hz2 rfl (by decide) u5 (tks t c (j + 1)).length (ints (tks t c (j + 1))) rfl (own_kept_below HW.out ((Below.refl _ _).alloc (Nat.le_refl _) _)) wr.heap.size 1 [.int .i64 (c - yo)] rfl rfl (cell_new1 _ _ _) (by intro y hy; rw [List.mem_singleton.1 hy]; rfl) (by have := HLk.out; unfold maxLen; omega) (by have := HLk.out; omega) (by have := HB.out.size; simp; omega) ?_; intro v2 w5 ho2 hB5; have HO2 := Lib.hid ho2; have HB5 := Lib.hid hB5; clear ho2 hB5)
                go_roundg (gk - 1)
                case measure => have := HG.out; have := HLT.out; omega
                case rel => exact ⟨(j + 1) + 1, by have := HG.out; have := HLT.out; omega, by go_num, own_any HO2.out (by rw [HXK.out, HV.out]; simp) (by rw [HXK.out, HV.out, HOF.out]; simp [ints]), (HB.out.alloc HB.out.size _).trans HB5.out⟩
              · have HV := Lib.hid (tk_no fun h => hup2 (HIF.out.1 ((HSI.out _ _ (by omega)).1 h)).2)
                clear hsave
                go_wp2_with fail
                go_roundg (gk - 1)
                case measure => have := HG.out; have := HLT.out; omega
                case rel => exact ⟨(j + 1) + 1, by have := HG.out; have := HLT.out; omega, by go_num, own_any HW.out (by rw [HXK.out, HV.out]; simp) (by rw [HXK.out, HV.out]; simp [ints]), HB.out⟩
            · have HV := Lib.hid (tk_no fun h => hlo2 (HIF.out.1 ((HSI.out _ _ (by omega)).1 h)).1)
              clear hsave
              go_wp2_with fail
              go_roundg (gk - 1)
              case measure => have := HG.out; have := HLT.out; omega
              case rel => exact ⟨(j + 1) + 1, by have := HG.out; have := HLT.out; omega, by go_num, own_any HW.out (by rw [HXK.out, HV.out]; simp) (by rw [HXK.out, HV.out]; simp [ints]), HB.out⟩
      · have hki : ¬ (k : Int) ≤ (l : Int) := by omega
        obtain rfl : k = l + 1 := by omega
        clear hlt
        go_wp2_with fail
        go_ret
        exact ⟨_, rfl, HW.out, HB.out⟩
end K
end Go.Proofs.Ytlmbpbhdbgadjaa
