/-
  The specification's At and Next.
-/
import Derived.Test.YtojflmejkigdiaaQRTk
import Derived.Test.YtojflmejkigdiaaQAt
namespace Go.Proofs.Ytojflmejkigdiaa
open Go.RowKit Go.Shelf
namespace Q
open H
set_option linter.unusedVariables false
set_option linter.unusedSimpArgs false
set_option maxRecDepth 100000
theorem fst_none {T : List Wn} {p : Wn → Bool} (h : ∀ i x, i < T.length → T[i]? = some x → p x = false) : fstV T p = .tuple #[zw.v, .bool false] := by
  have : T.find? p = none := by
    rw [List.find?_eq_none]
    intro x hx
    obtain ⟨i, hi⟩ := List.mem_iff_getElem?.1 hx
    rw [h i x (List.getElem?_eq_some_iff.1 hi).1 hi]
    exact Bool.false_ne_true
  unfold fstV
  rw [this]
  rfl
theorem fst_some {T : List Wn} {p : Wn → Bool} {i : Nat} {x : Wn} (h : ∀ j y, j < i → T[j]? = some y → p y = false) (hx : T[i]? = some x) (hp : p x = true) : fstV T p = .tuple #[x.v, .bool true] := by
  have : T.find? p = some x := by
    rw [List.find?_eq_some_iff_getElem]
    obtain ⟨hi, rfl⟩ := List.getElem?_eq_some_iff.1 hx
    exact ⟨hp, i, hi, rfl, fun j hj => by rw [h j _ hj (List.getElem?_eq_getElem (by omega))]; rfl⟩
  unfold fstV
  rw [this]
  rfl
set_option maxHeartbeats 4000000 in
theorem rNext_any (T : List Wn) (A : Option Addr) (cap B : Nat) (k a b t : Int) (w : World) (hB : B ≤ w.heap.size) (hlen : T.length ≤ 140737488351232) (hR : RdsWn w B A T) :
    Calls Try.prog 21 #[.slice A T.length cap, .int .i64 k, .int .i64 a, .int .i64 b, .int .i64 t] w fun e w' => e = .returned (fstV T (pNext k a b t)) ∧ Below w.heap.size w w' := by
  have HK := Lib.hid (fun x W => rkey_any x k a b W)
  have HR := Lib.hid hR
  have HGET := Lib.hid (fun k (hk : k < T.length) => (⟨T[k], List.getElem?_eq_getElem hk⟩ : ∃ x, T[k]? = some x))
  have HN : Hid ((∀ i x, i < T.length → T[i]? = some x → pNext k a b t x = false) → fstV T (pNext k a b t) = .tuple #[zw.v, .bool false]) := Lib.hid fst_none
  have HS : Hid (∀ i x, (∀ j y, j < i → T[j]? = some y → pNext k a b t y = false) → T[i]? = some x → pNext k a b t x = true → fstV T (pNext k a b t) = .tuple #[x.v, .bool true]) := Lib.hid (fun i x h1 h2 h3 => fst_some h1 h2 h3)
  have HZ := Lib.hid (Wb.new w zw)
  clear hR
  generalize T.length = len at *
  generalize fstV T (pNext k a b t) = res at *
  go_enter Try.func21, Try.ntmps21
  go_wp2_with fail
  go_loopg [12] len (fun g i wr => ∃ q : Nat, q + g = len ∧ i = .int .i64 (q : Nat) ∧ Hid (∀ j y, j < q → T[j]? = some y → pNext k a b t y = false) ∧ Wb wr w.heap.size zw ∧ Below w.heap.size w wr)
  case atStart => exact ⟨0, Nat.zero_add _, rfl, Lib.hid (fun j y hj => absurd hj (Nat.not_lt_zero _)), HZ.out, bel1 _ _⟩
  case round =>
    obtain ⟨q, hg, rfl, HT, hz, hB2⟩ := hrel
    have BEL := Lib.hid hB2
    have HG := Lib.hid hg
    have HZ2 := Lib.hid hz
    have hqn : q ≤ len := by omega
    clear hg hB2 hz
    by_cases hlt : q < len
    · have HLT := Lib.hid hlt
      have hqi : (q : Int) < (len : Int) := by omega
      obtain ⟨x, hx⟩ := HGET.out q hlt
      obtain ⟨ad, rfl, had, hr⟩ := HR.out.below (BEL.out.mono hB) q x hx
      have c0 := hr.c0
      have c1 := hr.c1
      have c2 := hr.c2
      have c3 := hr.c3
      have c4 := hr.c4
      have c5 := hr.c5
      have HXX := Lib.hid hx
      have HK2 := Lib.hid (HK.out x)
      have hpk : pNext k a b t x = (hk x k a b && decide (t < x.un)) := rfl
      have HPK := Lib.hid hpk
      clear hr hx had hpk hlt
      generalize hk x k a b = r at *
      cases r with
      | false =>
        go_wp2_with (go_at_call 47; refine (HK2.out _).mono ?_; rintro e w3 ⟨rfl, hB3⟩)
        go_roundg (gk - 1)
        case measure => have := HG.out; have := HLT.out; omega
        case rel => exact ⟨q + 1, by have := HG.out; have := HLT.out; omega, by go_num, Lib.hid (fun j y hj hy => by
          rcases Nat.lt_or_ge j q with h | h
          · exact HT.out j y h hy
          · obtain rfl : j = q := by omega
            rw [HXX.out] at hy
            obtain rfl := Option.some.inj hy
            rw [HPK.out]; rfl), heap_keep hB3 HZ2.out, BEL.out.trans (hB3.mono BEL.out.size)⟩
      | true =>
        by_cases hc : t < x.un
        · have HV := Lib.hid (HS.out q x HT.out HXX.out (by rw [HPK.out]; simpa using hc))
          go_wp2_with (go_at_call 47; go_must (refine (HK2.out _).mono ?_; rintro e w3 ⟨rfl, hB3⟩; have HB3 := Lib.hid hB3; have d0 := below_cell hB3 c0; have d1 := below_cell hB3 c1; have d2 := below_cell hB3 c2; have d3 := below_cell hB3 c3; have d4 := below_cell hB3 c4; have d5 := below_cell hB3 c5; have HY := Lib.hid (heap_keep hB3 HZ2.out : Wb w3 w.heap.size zw); have m0 := (Wb.bx HY.out).c0; have m1 := (Wb.bx HY.out).c1; have m2 := (Wb.bx HY.out).c2; have m3 := (Wb.bx HY.out).c3; have m4 := (Wb.bx HY.out).c4; have m5 := (Wb.bx HY.out).c5; obtain ⟨g0, g1, g2, g3, g4, g5⟩ := Wb.fz HY.out; clear hB3))
          obtain ⟨V, hV⟩ : ∃ V, V = put6 w3 w.heap.size x := ⟨_, rfl⟩
          have hN : Wb V w.heap.size x := by rw [hV]; exact Wb.put x HY.out
          have hBV : Below w.heap.size w V := by rw [hV]; exact (BEL.out.trans (HB3.out.mono BEL.out.size)).trans (put6_below x (Nat.le_refl _))
          change bodyPost _ _ _ _ _ (put6 w3 w.heap.size x)
          rw [← hV]
          have e0 := hN.bx.c0
          have e1 := hN.bx.c1
          have e2 := hN.bx.c2
          have e3 := hN.bx.c3
          have e4 := hN.bx.c4
          have e5 := hN.bx.c5
          clear hN hV
          refine bodyPost_ret (v := .tuple #[(x).v, .bool true]) (by simp [results, Try.results21, go_sem, e0, e1, e2, e3, e4, e5]) rfl ⟨by rw [HV.out], hBV⟩
        · have hc2 := hc
          go_wp2_with (go_at_call 47; refine (HK2.out _).mono ?_; rintro e w3 ⟨rfl, hB3⟩; have HB3 := Lib.hid hB3; have d4 := below_cell hB3 c4; clear hB3)
          go_roundg (gk - 1)
          case measure => have := HG.out; have := HLT.out; omega
          case rel => exact ⟨q + 1, by have := HG.out; have := HLT.out; omega, by go_num, Lib.hid (fun j y hj hy => by
            rcases Nat.lt_or_ge j q with h | h
            · exact HT.out j y h hy
            · obtain rfl : j = q := by omega
              rw [HXX.out] at hy
              obtain rfl := Option.some.inj hy
              rw [HPK.out]; simpa using hc2), heap_keep HB3.out HZ2.out, BEL.out.trans (HB3.out.mono BEL.out.size)⟩
    · obtain rfl : q = len := by omega
      have HE := Lib.hid (HN.out HT.out)
      clear hlt
      have y1 := HZ2.out
      have m0 := y1.bx.c0
      have m1 := y1.bx.c1
      have m2 := y1.bx.c2
      have m3 := y1.bx.c3
      have m4 := y1.bx.c4
      have m5 := y1.bx.c5
      obtain ⟨g0, g1, g2, g3, g4, g5⟩ := y1.fz
      clear y1
      go_wp2_with fail
      obtain ⟨V, hV⟩ : ∃ V, V = put6 wr w.heap.size zw := ⟨_, rfl⟩
      have hN : Wb V w.heap.size zw := by rw [hV]; exact Wb.put zw HZ2.out
      have hBV : Below w.heap.size w V := by rw [hV]; exact (BEL.out).trans (put6_below zw (Nat.le_refl _))
      change bodyPost _ _ _ _ _ (put6 wr w.heap.size zw)
      rw [← hV]
      have e0 := hN.bx.c0
      have e1 := hN.bx.c1
      have e2 := hN.bx.c2
      have e3 := hN.bx.c3
      have e4 := hN.bx.c4
      have e5 := hN.bx.c5
      clear hN hV
      refine bodyPost_ret (v := .tuple #[(zw).v, .bool false]) (by simp [results, Try.results21, go_sem, e0, e1, e2, e3, e4, e5]) rfl ⟨by rw [HE.out], hBV⟩
set_option maxHeartbeats 4000000 in
theorem rAt_any (T : List Wn) (A : Option Addr) (cap B : Nat) (k a b t : Int) (w : World) (hB : B ≤ w.heap.size) (hlen : T.length ≤ 140737488351232) (hR : RdsWn w B A T) :
    Calls Try.prog 19 #[.slice A T.length cap, .int .i64 k, .int .i64 a, .int .i64 b, .int .i64 t] w fun e w' => e = .returned (fstV T (pAt k a b t)) ∧ Below w.heap.size w w' := by
  have HK := Lib.hid (fun x W => rkey_any x k a b W)
  have HR := Lib.hid hR
  have HGET := Lib.hid (fun k (hk : k < T.length) => (⟨T[k], List.getElem?_eq_getElem hk⟩ : ∃ x, T[k]? = some x))
  have HN : Hid ((∀ i x, i < T.length → T[i]? = some x → pAt k a b t x = false) → fstV T (pAt k a b t) = .tuple #[zw.v, .bool false]) := Lib.hid fst_none
  have HS : Hid (∀ i x, (∀ j y, j < i → T[j]? = some y → pAt k a b t y = false) → T[i]? = some x → pAt k a b t x = true → fstV T (pAt k a b t) = .tuple #[x.v, .bool true]) := Lib.hid (fun i x h1 h2 h3 => fst_some h1 h2 h3)
  have HZ := Lib.hid (Wb.new w zw)
  clear hR
  generalize T.length = len at *
  generalize fstV T (pAt k a b t) = res at *
  go_enter Try.func19, Try.ntmps19
  go_wp2_with fail
  go_loopg [12] len (fun g i wr => ∃ q : Nat, q + g = len ∧ i = .int .i64 (q : Nat) ∧ Hid (∀ j y, j < q → T[j]? = some y → pAt k a b t y = false) ∧ Wb wr w.heap.size zw ∧ Below w.heap.size w wr)
  case atStart => exact ⟨0, Nat.zero_add _, rfl, Lib.hid (fun j y hj => absurd hj (Nat.not_lt_zero _)), HZ.out, bel1 _ _⟩
  case round =>
    obtain ⟨q, hg, rfl, HT, hz, hB2⟩ := hrel
    have BEL := Lib.hid hB2
    have HG := Lib.hid hg
    have HZ2 := Lib.hid hz
    have hqn : q ≤ len := by omega
    clear hg hB2 hz
    by_cases hlt : q < len
    · have HLT := Lib.hid hlt
      have hqi : (q : Int) < (len : Int) := by omega
      obtain ⟨x, hx⟩ := HGET.out q hlt
      obtain ⟨ad, rfl, had, hr⟩ := HR.out.below (BEL.out.mono hB) q x hx
      have c0 := hr.c0
      have c1 := hr.c1
      have c2 := hr.c2
      have c3 := hr.c3
      have c4 := hr.c4
      have c5 := hr.c5
      have HXX := Lib.hid hx
      have HK2 := Lib.hid (HK.out x)
      have hpk : pAt k a b t x = (hk x k a b && op x t) := rfl
      have HPK := Lib.hid hpk
      clear hr hx had hpk hlt
      generalize hk x k a b = r at *
      cases r with
      | false =>
        go_wp2_with (go_at_call 47; refine (HK2.out _).mono ?_; rintro e w3 ⟨rfl, hB3⟩)
        go_roundg (gk - 1)
        case measure => have := HG.out; have := HLT.out; omega
        case rel => exact ⟨q + 1, by have := HG.out; have := HLT.out; omega, by go_num, Lib.hid (fun j y hj hy => by
          rcases Nat.lt_or_ge j q with h | h
          · exact HT.out j y h hy
          · obtain rfl : j = q := by omega
            rw [HXX.out] at hy
            obtain rfl := Option.some.inj hy
            rw [HPK.out]; rfl), heap_keep hB3 HZ2.out, BEL.out.trans (hB3.mono BEL.out.size)⟩
      | true =>
        by_cases hc : x.fr ≤ t ∧ t < x.un
        · have HV := Lib.hid (HS.out q x HT.out HXX.out (by rw [HPK.out]; unfold op; rw [decide_eq_true hc]; rfl))
          obtain ⟨hc3, hc4⟩ := hc
          go_wp2_with (go_at_call 47; go_must (refine (HK2.out _).mono ?_; rintro e w3 ⟨rfl, hB3⟩; have HB3 := Lib.hid hB3; have d0 := below_cell hB3 c0; have d1 := below_cell hB3 c1; have d2 := below_cell hB3 c2; have d3 := below_cell hB3 c3; have d4 := below_cell hB3 c4; have d5 := below_cell hB3 c5; have HY := Lib.hid (heap_keep hB3 HZ2.out : Wb w3 w.heap.size zw); have m0 := (Wb.bx HY.out).c0; have m1 := (Wb.bx HY.out).c1; have m2 := (Wb.bx HY.out).c2; have m3 := (Wb.bx HY.out).c3; have m4 := (Wb.bx HY.out).c4; have m5 := (Wb.bx HY.out).c5; obtain ⟨g0, g1, g2, g3, g4, g5⟩ := Wb.fz HY.out; clear hB3))
          obtain ⟨V, hV⟩ : ∃ V, V = put6 w3 w.heap.size x := ⟨_, rfl⟩
          have hN : Wb V w.heap.size x := by rw [hV]; exact Wb.put x HY.out
          have hBV : Below w.heap.size w V := by rw [hV]; exact (BEL.out.trans (HB3.out.mono BEL.out.size)).trans (put6_below x (Nat.le_refl _))
          change bodyPost _ _ _ _ _ (put6 w3 w.heap.size x)
          rw [← hV]
          have e0 := hN.bx.c0
          have e1 := hN.bx.c1
          have e2 := hN.bx.c2
          have e3 := hN.bx.c3
          have e4 := hN.bx.c4
          have e5 := hN.bx.c5
          clear hN hV
          refine bodyPost_ret (v := .tuple #[(x).v, .bool true]) (by simp [results, Try.results19, go_sem, e0, e1, e2, e3, e4, e5]) rfl ⟨by rw [HV.out], hBV⟩
        · have HCC := Lib.hid hc
          by_cases hc3 : x.fr ≤ t
          · have hc4 : ¬ t < x.un := fun h => hc ⟨hc3, h⟩
            clear hc
            go_wp2_with (go_at_call 47; refine (HK2.out _).mono ?_; rintro e w3 ⟨rfl, hB3⟩; have HB3 := Lib.hid hB3; have d3 := below_cell hB3 c3; have d4 := below_cell hB3 c4; clear hB3)
            go_roundg (gk - 1)
            case measure => have := HG.out; have := HLT.out; omega
            case rel => exact ⟨q + 1, by have := HG.out; have := HLT.out; omega, by go_num, Lib.hid (fun j y hj hy => by
              rcases Nat.lt_or_ge j q with h | h
              · exact HT.out j y h hy
              · obtain rfl : j = q := by omega
                rw [HXX.out] at hy
                obtain rfl := Option.some.inj hy
                rw [HPK.out]; unfold op; rw [decide_eq_false HCC.out]; rfl), heap_keep HB3.out HZ2.out, BEL.out.trans (HB3.out.mono BEL.out.size)⟩
          · clear hc
            go_wp2_with (go_at_call 47; refine (HK2.out _).mono ?_; rintro e w3 ⟨rfl, hB3⟩; have HB3 := Lib.hid hB3; have d3 := below_cell hB3 c3; have d4 := below_cell hB3 c4; clear hB3)
            go_roundg (gk - 1)
            case measure => have := HG.out; have := HLT.out; omega
            case rel => exact ⟨q + 1, by have := HG.out; have := HLT.out; omega, by go_num, Lib.hid (fun j y hj hy => by
              rcases Nat.lt_or_ge j q with h | h
              · exact HT.out j y h hy
              · obtain rfl : j = q := by omega
                rw [HXX.out] at hy
                obtain rfl := Option.some.inj hy
                rw [HPK.out]; unfold op; rw [decide_eq_false HCC.out]; rfl), heap_keep HB3.out HZ2.out, BEL.out.trans (HB3.out.mono BEL.out.size)⟩
    · obtain rfl : q = len := by omega
      have HE := Lib.hid (HN.out HT.out)
      clear hlt
      have y1 := HZ2.out
      have m0 := y1.bx.c0
      have m1 := y1.bx.c1
      have m2 := y1.bx.c2
      have m3 := y1.bx.c3
      have m4 := y1.bx.c4
      have m5 := y1.bx.c5
      obtain ⟨g0, g1, g2, g3, g4, g5⟩ := y1.fz
      clear y1
      go_wp2_with fail
      obtain ⟨V, hV⟩ : ∃ V, V = put6 wr w.heap.size zw := ⟨_, rfl⟩
      have hN : Wb V w.heap.size zw := by rw [hV]; exact Wb.put zw HZ2.out
      have hBV : Below w.heap.size w V := by rw [hV]; exact (BEL.out).trans (put6_below zw (Nat.le_refl _))
      change bodyPost _ _ _ _ _ (put6 wr w.heap.size zw)
      rw [← hV]
      have e0 := hN.bx.c0
      have e1 := hN.bx.c1
      have e2 := hN.bx.c2
      have e3 := hN.bx.c3
      have e4 := hN.bx.c4
      have e5 := hN.bx.c5
      clear hN hV
      refine bodyPost_ret (v := .tuple #[(zw).v, .bool false]) (by simp [results, Try.results19, go_sem, e0, e1, e2, e3, e4, e5]) rfl ⟨by rw [HE.out], hBV⟩
end Q
end Go.Proofs.Ytojflmejkigdiaa
