/-
  The specification's Check.
-/
import Derived.Test.YtojflmejkigdiaaQChk2
namespace Go.Proofs.Ytojflmejkigdiaa
open Go.RowKit Go.Shelf
namespace Q
open H
set_option linter.unusedVariables false
set_option linter.unusedSimpArgs false
set_option maxRecDepth 100000
/-- What is wrong at a window. -/
def bad1 (T : List Wn) : Nat → Bool
  | 0 => false
  | i + 1 => match T[i + 1]?, T[i]? with | some x, some y => bef x y | _, _ => false
def bad2 (T : List Wn) (i k : Nat) : Bool := match T[i]?, T[k]? with | some x, some y => meet x y | _, _ => false
def bad (T : List Wn) (i : Nat) : Bool := bad1 T i || (List.range i).any (bad2 T i)
def rchk (T : List Wn) : Int := if 200 < T.length then 2 else if (T.find? fun x => !fm x).isSome then 5 else if (List.range T.length).any (bad T) then 23 else 0
theorem find_no {T : List Wn} (h : ∀ i x, T[i]? = some x → i < T.length → fm x = true) : (T.find? fun x => !fm x).isSome = false := by
  rw [Option.isSome_eq_false_iff, Option.isNone_iff_eq_none, List.find?_eq_none]
  intro x hx
  obtain ⟨i, hi⟩ := List.mem_iff_getElem?.1 hx
  rw [h i x hi (List.getElem?_eq_some_iff.1 hi).1]
  simp
theorem find_yes {T : List Wn} {i : Nat} {x : Wn} (h : T[i]? = some x) (hf : fm x = false) : (T.find? fun x => !fm x).isSome = true := by
  rw [List.find?_isSome]
  exact ⟨x, List.mem_of_getElem? h, by rw [hf]; rfl⟩
theorem any_no {n : Nat} {p : Nat → Bool} (h : ∀ i, i < n → p i = false) : (List.range n).any p = false := by
  rw [List.any_eq_false]
  intro i hi
  rw [h i (List.mem_range.1 hi)]
  simp
theorem any_yes {n : Nat} {p : Nat → Bool} {i : Nat} (hi : i < n) (h : p i = true) : (List.range n).any p = true := by
  rw [List.any_eq_true]
  exact ⟨i, List.mem_range.2 hi, h⟩
set_option maxHeartbeats 8000000 in
theorem rcheck_any (T : List Wn) (A : Option Addr) (cap B : Nat) (w : World) (hB : B ≤ w.heap.size) (hlen : T.length ≤ 140737488351232) (hR : RdsWn w B A T) :
    Calls Try.prog 14 #[.slice A T.length cap] w fun e w' => e = .returned (.int .i64 (rchk T)) ∧ Below w.heap.size w w' := by
  unfold rchk
  by_cases h200 : 200 < T.length
  · rw [if_pos h200]
    have h2 : (200 : Int) < (T.length : Int) := by omega
    clear hR
    generalize T.length = len at *
    go_enter Try.func14, Try.ntmps14
    go_wp2_with fail
    go_ret
    exact ⟨rfl, Below.refl _ _⟩
  · rw [if_neg h200]
    have h2 : ¬ (200 : Int) < (T.length : Int) := by omega
    have HF := Lib.hid (fun x W => rfm_any x W)
    have HBE := Lib.hid (fun v x W => rbef_any v x W)
    have HME := Lib.hid (fun v x W => rmeet_any v x W)
    have HR := Lib.hid hR
    have HGET := Lib.hid (fun k (hk : k < T.length) => (⟨T[k], List.getElem?_eq_getElem hk⟩ : ∃ x, T[k]? = some x))
    have HFN : Hid ((∀ i x, T[i]? = some x → i < T.length → fm x = true) → (T.find? fun x => !fm x).isSome = false) := Lib.hid find_no
    have HFY : Hid (∀ i x, T[i]? = some x → fm x = false → (T.find? fun x => !fm x).isSome = true) := Lib.hid (fun i x h1 h2 => find_yes h1 h2)
    have HBN : Hid ((∀ i, i < T.length → bad T i = false) → (List.range T.length).any (bad T) = false) := Lib.hid any_no
    have HBY : Hid (∀ i, i < T.length → bad T i = true → (List.range T.length).any (bad T) = true) := Lib.hid (fun i h1 h2 => any_yes h1 h2)
    have HB1 : Hid (∀ i, bad1 T i = true → bad T i = true) := Lib.hid (fun i h => by unfold bad; rw [h]; rfl)
    have HB2 : Hid (∀ i k, k < i → bad2 T i k = true → bad T i = true) := Lib.hid (fun i k hk h => by unfold bad; rw [any_yes hk h]; simp)
    have HB0 : Hid (∀ i, bad1 T i = false → (∀ k, k < i → bad2 T i k = false) → bad T i = false) := Lib.hid (fun i h1 h2 => by unfold bad; rw [h1, any_no h2]; rfl)
    have HBD1 : Hid (∀ i x y, T[i + 1]? = some x → T[i]? = some y → bad1 T (i + 1) = bef x y) := Lib.hid (fun i x y h1 h2 => by show (match T[i + 1]?, T[i]? with | some x, some y => bef x y | _, _ => false) = _; rw [h1, h2])
    have HBD2 : Hid (∀ i k x y, T[i]? = some x → T[k]? = some y → bad2 T i k = meet x y) := Lib.hid (fun i k x y h1 h2 => by unfold bad2; rw [h1, h2])
    have HB10 : Hid (bad1 T 0 = false) := Lib.hid rfl
    clear hR
    generalize hl : T.length = len at *
    clear hl h200
    generalize (T.find? fun x => !fm x).isSome = f5 at *
    generalize (List.range len).any (bad T) = f23 at *
    obtain ⟨res, hres⟩ : ∃ res : Int, res = if f5 then 5 else if f23 then 23 else 0 := ⟨_, rfl⟩
    rw [← hres]
    have HR5 : Hid (f5 = true → res = 5) := Lib.hid (fun h => by rw [hres, h]; rfl)
    have HR23 : Hid (f5 = false → f23 = true → res = 23) := Lib.hid (fun h1 h2 => by rw [hres, h1, h2]; rfl)
    have HR0 : Hid (f5 = false → f23 = false → res = 0) := Lib.hid (fun h1 h2 => by rw [hres, h1, h2]; rfl)
    clear hres
    go_enter Try.func14, Try.ntmps14
    go_wp2_with fail
    go_loopg [3] len (fun g i wr => ∃ k : Nat, k + g = len ∧ i = .int .i64 (k : Nat) ∧ Hid (∀ j x, T[j]? = some x → j < k → fm x = true) ∧ Below w.heap.size w wr)
    case atStart => exact ⟨0, Nat.zero_add _, rfl, Lib.hid (fun j x _ hj => absurd hj (Nat.not_lt_zero _)), Below.refl _ _⟩
    case round =>
      obtain ⟨k, hg, rfl, HT, hB2⟩ := hrel
      have BEL := Lib.hid hB2
      have HG := Lib.hid hg
      have hkn : k ≤ len := by omega
      clear hg hB2
      by_cases hlt : k < len
      · have HLT := Lib.hid hlt
        have hki : (k : Int) < (len : Int) := by omega
        obtain ⟨x, hx⟩ := HGET.out k hlt
        obtain ⟨ad, rfl, had, hr⟩ := HR.out.below (BEL.out.mono hB) k x hx
        have c0 := hr.c0
        have c1 := hr.c1
        have c2 := hr.c2
        have c3 := hr.c3
        have c4 := hr.c4
        have c5 := hr.c5
        have HFX := Lib.hid (HF.out x)
        have HYY := Lib.hid (HFY.out k x hx)
        have HXX := Lib.hid hx
        clear hr had hx hlt
        cases hf : fm x with
        | true =>
          rw [hf] at HFX
          go_wp2_with (go_at_call 38; with_reducible refine (HFX.out _).mono ?_; rintro e w3 ⟨rfl, hB3⟩)
          go_roundg (gk - 1)
          case measure => have := HG.out; have := HLT.out; omega
          case rel => exact ⟨k + 1, by have := HG.out; have := HLT.out; omega, by go_num, Lib.hid (fun j x' hj hjk => by
            rcases Nat.lt_or_ge j k with h | h
            · exact HT.out j x' hj h
            · obtain rfl : j = k := by omega
              rw [HXX.out] at hj
              obtain rfl := Option.some.inj hj
              exact hf), BEL.out.trans (hB3.mono BEL.out.size)⟩
        | false =>
          have hv := HYY.out hf
          rw [hf] at HFX
          have HV := Lib.hid hv
          clear hv
          go_wp2_with (go_at_call 38; with_reducible refine (HFX.out _).mono ?_; rintro e w3 ⟨rfl, hB3⟩)
          go_ret
          exact ⟨by rw [HR5.out HV.out]; rfl, BEL.out.trans (hB3.mono BEL.out.size)⟩
      · obtain rfl : k = len := by omega
        have HV := Lib.hid (HFN.out HT.out)
        clear hlt HT
        go_wp2_with fail
        go_loopg [4] k (fun g i wr => ∃ n : Nat, n + g = k ∧ i = .int .i64 (n : Nat) ∧ Hid (∀ j, j < n → bad T j = false) ∧ Below w.heap.size w wr)
        case atStart => exact ⟨0, Nat.zero_add _, rfl, Lib.hid (fun j hj => absurd hj (Nat.not_lt_zero _)), BEL.out⟩
        case round =>
          obtain ⟨n, hg, rfl, HT, hB2⟩ := hrel
          have BL2 := Lib.hid hB2
          have HG2 := Lib.hid hg
          have hnk : n ≤ k := by omega
          clear hg hB2
          by_cases hlt : n < k
          · have HLT := Lib.hid hlt
            have hni : (n : Int) < (k : Int) := by omega
            obtain ⟨x, hx⟩ := HGET.out n hlt
            have HXX := Lib.hid hx
            clear hlt
            obtain ⟨g2, hg2e⟩ : ∃ g2, g2 = gk := ⟨_, rfl⟩
            have HGG : Hid (n + g2 = k) := Lib.hid (by rw [hg2e]; exact HG2.out)
            have HGE := Lib.hid hg2e
            clear hg2e
            go_upto_region 11 with fail
            rcases Nat.eq_zero_or_pos n with hn0 | hn0
            · subst hn0
              have hz0 : ¬ (0 : Int) < ((0 : Nat) : Int) := by omega
              refine wp_region_held_drew (S := fun X => True) (by kernel_rfl) trivial (fun hHeld => ?_)
              refine wpAnyH_take (i := 0) (oi := { dst := some 27, op := _, type := _, pos := _, after := _, guard := _ }) (v := ?_) rfl (by kernel_rfl) (by kernel_rfl) (by kernel_rfl) (fun _ _ _ h => h) (Or.inl ⟨by rfl, ?_⟩) (by assumption) ?_
              rotate_left
              · (intro w hSw; (try dsimp only at hSw); go_simp)
                first | done | with_reducible rfl
              try simp only [Act.put, List.setIfInBounds_toArray, List.set_cons_zero, List.set_cons_succ]
              refine wpAnyH_take (i := 1) (oi := { dst := some 28, op := _, type := _, pos := _, after := _, guard := _ }) (v := ?_) rfl (by kernel_rfl) (by kernel_rfl) (by kernel_rfl) (fun _ _ _ h => h) (Or.inl ⟨by rfl, ?_⟩) (by assumption) ?_
              rotate_left
              · (intro w hSw; (try dsimp only at hSw); go_simp)
                first | done | with_reducible rfl
              try simp only [Act.put, List.setIfInBounds_toArray, List.set_cons_zero, List.set_cons_succ]
              refine wpAnyH_take (i := 2) (oi := { dst := some 29, op := _, type := _, pos := _, after := _, guard := _ }) (v := ?_) rfl (by kernel_rfl) (by kernel_rfl) (by kernel_rfl) (fun _ _ _ h => h) (Or.inl ⟨by rfl, ?_⟩) (by assumption) ?_
              rotate_left
              · (intro w hSw; (try dsimp only at hSw); go_simp)
                first | done | with_reducible rfl
              try simp only [Act.put, List.setIfInBounds_toArray, List.set_cons_zero, List.set_cons_succ]
              refine wpAnyH_take (i := 3) (oi := { dst := some 30, op := _, type := _, pos := _, after := _, guard := _ }) (v := undef) rfl (by kernel_rfl) (by kernel_rfl) (by kernel_rfl) (fun _ _ _ h => h) (Or.inr ⟨by rfl, rfl⟩) (by assumption) ?_
              try simp only [Act.put, List.setIfInBounds_toArray, List.set_cons_zero, List.set_cons_succ]
              refine wpAnyH_take (i := 4) (oi := { dst := some 31, op := _, type := _, pos := _, after := _, guard := _ }) (v := undef) rfl (by kernel_rfl) (by kernel_rfl) (by kernel_rfl) (fun _ _ _ h => h) (Or.inr ⟨by rfl, rfl⟩) (by assumption) ?_
              try simp only [Act.put, List.setIfInBounds_toArray, List.set_cons_zero, List.set_cons_succ]
              refine wpAnyH_take (i := 5) (oi := { dst := some 32, op := _, type := _, pos := _, after := _, guard := _ }) (v := undef) rfl (by kernel_rfl) (by kernel_rfl) (by kernel_rfl) (fun _ _ _ h => h) (Or.inr ⟨by rfl, rfl⟩) (by assumption) ?_
              try simp only [Act.put, List.setIfInBounds_toArray, List.set_cons_zero, List.set_cons_succ]
              refine wpAnyH_take (i := 6) (oi := { dst := some 33, op := _, type := _, pos := _, after := _, guard := _ }) (v := undef) rfl (by kernel_rfl) (by kernel_rfl) (by kernel_rfl) (fun _ _ _ h => h) (Or.inr ⟨by rfl, rfl⟩) (by assumption) ?_
              try simp only [Act.put, List.setIfInBounds_toArray, List.set_cons_zero, List.set_cons_succ]
              refine wpAnyH_take (i := 7) (oi := { dst := some 34, op := _, type := _, pos := _, after := _, guard := _ }) (v := undef) rfl (by kernel_rfl) (by kernel_rfl) (by kernel_rfl) (fun _ _ _ h => h) (Or.inr ⟨by rfl, rfl⟩) (by assumption) ?_
              try simp only [Act.put, List.setIfInBounds_toArray, List.set_cons_zero, List.set_cons_succ]
              refine wpAnyH_take (i := 8) (oi := { dst := some 35, op := _, type := _, pos := _, after := _, guard := _ }) (v := undef) rfl (by kernel_rfl) (by kernel_rfl) (by kernel_rfl) (fun _ _ _ h => h) (Or.inr ⟨by rfl, rfl⟩) (by assumption) ?_
              try simp only [Act.put, List.setIfInBounds_toArray, List.set_cons_zero, List.set_cons_succ]
              refine wpAnyH_take (i := 9) (oi := { dst := some 36, op := _, type := _, pos := _, after := _, guard := _ }) (v := undef) rfl (by kernel_rfl) (by kernel_rfl) (by kernel_rfl) (fun _ _ _ h => h) (Or.inr ⟨by rfl, rfl⟩) (by assumption) ?_
              try simp only [Act.put, List.setIfInBounds_toArray, List.set_cons_zero, List.set_cons_succ]
              refine wpAnyH_take (i := 10) (oi := { dst := some 37, op := _, type := _, pos := _, after := _, guard := _ }) (v := undef) rfl (by kernel_rfl) (by kernel_rfl) (by kernel_rfl) (fun _ _ _ h => h) (Or.inr ⟨by rfl, rfl⟩) (by assumption) ?_
              try simp only [Act.put, List.setIfInBounds_toArray, List.set_cons_zero, List.set_cons_succ]
              refine wpAnyH_take (i := 11) (oi := { dst := some 38, op := _, type := _, pos := _, after := _, guard := _ }) (v := undef) rfl (by kernel_rfl) (by kernel_rfl) (by kernel_rfl) (fun _ _ _ h => h) (Or.inr ⟨by rfl, rfl⟩) (by assumption) ?_
              try simp only [Act.put, List.setIfInBounds_toArray, List.set_cons_zero, List.set_cons_succ]
              refine wpAnyH_take (i := 12) (oi := { dst := some 39, op := _, type := _, pos := _, after := _, guard := _ }) (v := undef) rfl (by kernel_rfl) (by kernel_rfl) (by kernel_rfl) (fun _ _ _ h => h) (Or.inr ⟨by rfl, rfl⟩) (by assumption) ?_
              try simp only [Act.put, List.setIfInBounds_toArray, List.set_cons_zero, List.set_cons_succ]
              refine wpAnyH_take (i := 13) (oi := { dst := some 40, op := _, type := _, pos := _, after := _, guard := _ }) (v := ?_) rfl (by kernel_rfl) (by kernel_rfl) (by kernel_rfl) (fun _ _ _ h => h) (Or.inl ⟨by rfl, ?_⟩) (by assumption) ?_
              rotate_left
              · (intro w hSw; (try dsimp only at hSw); go_simp)
                first | done | with_reducible rfl
              try simp only [Act.put, List.setIfInBounds_toArray, List.set_cons_zero, List.set_cons_succ]
              refine wpAnyH_done (by kernel_rfl) ?_ _
              have BI := Lib.hid (BL2.out.drew)
              have H1F := Lib.hid (HB10.out)
              go_wp2_with fail
              go_loopg [5] 0 (fun g i wr => ∃ q : Nat, q + g = 0 ∧ i = .int .i64 (q : Nat) ∧ Hid (∀ j, j < q → bad2 T 0 j = false) ∧ Below w.heap.size w wr)
              case atStart => exact ⟨0, Nat.zero_add _, rfl, Lib.hid (fun j hj => absurd hj (Nat.not_lt_zero _)), BI.out⟩
              case round =>
                obtain ⟨q, hg, rfl, HTI, hBi⟩ := hrel
                have BLI := Lib.hid hBi
                have HGI := Lib.hid hg
                have hqn : q ≤ 0 := by omega
                clear hg hBi
                by_cases hlq : q < 0
                · exact absurd hlq (Nat.not_lt_zero _)
                · obtain rfl : q = 0 := by omega
                  have HBF := Lib.hid (HB0.out 0 H1F.out HTI.out)
                  clear hlq
                  go_wp2_with fail
                  go_roundg (g2 - 1)
                  case measure => have := HGG.out; have := HGE.out; have := HLT.out; omega
                  case rel => exact ⟨0 + 1, by have := HGG.out; have := HLT.out; omega, by go_num, Lib.hid (fun j hj => by
                    rcases Nat.lt_or_ge j 0 with h | h
                    · exact HT.out j h
                    · obtain rfl : j = 0 := by omega
                      exact HBF.out), BLI.out⟩
            · obtain ⟨p, hp⟩ : ∃ p, p = n := ⟨_, rfl⟩
              rw [← hp]
              have hj0 : (0 : Int) < (p : Int) := by omega
              have hj1 : (1 : Int) ≤ (p : Int) := by omega
              have hj2 : (p : Int) < (k : Int) := by omega
              have hj3 : (p : Int) ≤ (k : Int) := by omega
              have hj6 : p ≤ k := by omega
              have hj7 : 0 < p := by omega
              have hj8 : 1 ≤ p := by omega
              have hjw : IntKind.i64.wrap ((p : Int) - 1) = (p : Int) - 1 := IntWalk.i64_in _ (by omega)
              have hj4 : (0 : Int) ≤ (p : Int) - 1 := by omega
              have hj5 : (p : Int) - 1 < (k : Int) := by omega
              have hjt : ((p : Int) - 1).toNat = p - 1 := by omega
              obtain ⟨y, hy⟩ := HGET.out (p - 1) (by omega)
              obtain ⟨ad, rfl, had, hrx⟩ := HR.out.below (BL2.out.mono hB) p x (by rw [hp]; exact HXX.out)
              obtain ⟨ad2, hA2, had2, hry⟩ := HR.out.below (BL2.out.mono hB) (p - 1) y hy
              obtain rfl := Option.some.inj hA2
              have HBV1 : Hid (bad1 T p = bef x y) := Lib.hid (by
                obtain ⟨m, rfl⟩ : ∃ m, p = m + 1 := ⟨p - 1, by omega⟩
                exact HBD1.out m x y (by rw [hp]; exact HXX.out) hy)
              have c0 := hrx.c0
              have c1 := hrx.c1
              have c2 := hrx.c2
              have c3 := hrx.c3
              have c4 := hrx.c4
              have c5 := hrx.c5
              have d0 := hry.c0
              have d1 := hry.c1
              have d2 := hry.c2
              have d3 := hry.c3
              have d4 := hry.c4
              have d5 := hry.c5
              have HBC := Lib.hid (fun W => HBE.out x y W)
              clear hrx hry hy had had2 hn0
              have HP := Lib.hid hp
              cases hb : bef x y with
              | true =>
                rw [hb] at HBC HBV1
                have hv23 := HBY.out p (by omega) (HB1.out p HBV1.out)
                have HV23 := Lib.hid hv23
                clear hv23 hb hp
                go_region_held3 (fun X => X.cell? (ad.add (p * 6)) = some (.int .i64 x.kind) ∧ X.cell? ⟨(ad.add (p * 6)).block, (ad.add (p * 6)).off + 1, none⟩ = some (.int .i64 x.a) ∧ X.cell? ⟨(ad.add (p * 6)).block, (ad.add (p * 6)).off + 2, none⟩ = some (.int .i64 x.b) ∧ X.cell? ⟨(ad.add (p * 6)).block, (ad.add (p * 6)).off + 3, none⟩ = some (.int .i64 x.fr) ∧ X.cell? ⟨(ad.add (p * 6)).block, (ad.add (p * 6)).off + 4, none⟩ = some (.int .i64 x.un) ∧ X.cell? ⟨(ad.add (p * 6)).block, (ad.add (p * 6)).off + 5, none⟩ = some (.int .i64 x.rate) ∧ X.cell? (ad.add ((p - 1) * 6)) = some (.int .i64 y.kind) ∧ X.cell? ⟨(ad.add ((p - 1) * 6)).block, (ad.add ((p - 1) * 6)).off + 1, none⟩ = some (.int .i64 y.a) ∧ X.cell? ⟨(ad.add ((p - 1) * 6)).block, (ad.add ((p - 1) * 6)).off + 2, none⟩ = some (.int .i64 y.b) ∧ X.cell? ⟨(ad.add ((p - 1) * 6)).block, (ad.add ((p - 1) * 6)).off + 3, none⟩ = some (.int .i64 y.fr) ∧ X.cell? ⟨(ad.add ((p - 1) * 6)).block, (ad.add ((p - 1) * 6)).off + 4, none⟩ = some (.int .i64 y.un) ∧ X.cell? ⟨(ad.add ((p - 1) * 6)).block, (ad.add ((p - 1) * 6)).off + 5, none⟩ = some (.int .i64 y.rate)) (with_reducible (first | exact ⟨cell_drw c0, cell_drw c1, cell_drw c2, cell_drw c3, cell_drw c4, cell_drw c5, cell_drw d0, cell_drw d1, cell_drw d2, cell_drw d3, cell_drw d4, cell_drw d5⟩ | exact ⟨below_cell hB3 (cell_drw c0), below_cell hB3 (cell_drw c1), below_cell hB3 (cell_drw c2), below_cell hB3 (cell_drw c3), below_cell hB3 (cell_drw c4), below_cell hB3 (cell_drw c5), below_cell hB3 (cell_drw d0), below_cell hB3 (cell_drw d1), below_cell hB3 (cell_drw d2), below_cell hB3 (cell_drw d3), below_cell hB3 (cell_drw d4), below_cell hB3 (cell_drw d5)⟩))
                  ((go_at_call 39; with_reducible refine (HBC.out _).mono ?_; rintro e w3 ⟨rfl, hB3⟩))
                go_wp2_with fail
                go_ret
                exact ⟨by rw [HR23.out HV.out HV23.out]; rfl, BL2.out.trans ((bt (below_drew _) hB3).mono BL2.out.size)⟩
              | false =>
                rw [hb] at HBC HBV1
                clear hb hp
                go_region_held3 (fun X => X.cell? (ad.add (p * 6)) = some (.int .i64 x.kind) ∧ X.cell? ⟨(ad.add (p * 6)).block, (ad.add (p * 6)).off + 1, none⟩ = some (.int .i64 x.a) ∧ X.cell? ⟨(ad.add (p * 6)).block, (ad.add (p * 6)).off + 2, none⟩ = some (.int .i64 x.b) ∧ X.cell? ⟨(ad.add (p * 6)).block, (ad.add (p * 6)).off + 3, none⟩ = some (.int .i64 x.fr) ∧ X.cell? ⟨(ad.add (p * 6)).block, (ad.add (p * 6)).off + 4, none⟩ = some (.int .i64 x.un) ∧ X.cell? ⟨(ad.add (p * 6)).block, (ad.add (p * 6)).off + 5, none⟩ = some (.int .i64 x.rate) ∧ X.cell? (ad.add ((p - 1) * 6)) = some (.int .i64 y.kind) ∧ X.cell? ⟨(ad.add ((p - 1) * 6)).block, (ad.add ((p - 1) * 6)).off + 1, none⟩ = some (.int .i64 y.a) ∧ X.cell? ⟨(ad.add ((p - 1) * 6)).block, (ad.add ((p - 1) * 6)).off + 2, none⟩ = some (.int .i64 y.b) ∧ X.cell? ⟨(ad.add ((p - 1) * 6)).block, (ad.add ((p - 1) * 6)).off + 3, none⟩ = some (.int .i64 y.fr) ∧ X.cell? ⟨(ad.add ((p - 1) * 6)).block, (ad.add ((p - 1) * 6)).off + 4, none⟩ = some (.int .i64 y.un) ∧ X.cell? ⟨(ad.add ((p - 1) * 6)).block, (ad.add ((p - 1) * 6)).off + 5, none⟩ = some (.int .i64 y.rate)) (with_reducible (first | exact ⟨cell_drw c0, cell_drw c1, cell_drw c2, cell_drw c3, cell_drw c4, cell_drw c5, cell_drw d0, cell_drw d1, cell_drw d2, cell_drw d3, cell_drw d4, cell_drw d5⟩ | exact ⟨below_cell hB3 (cell_drw c0), below_cell hB3 (cell_drw c1), below_cell hB3 (cell_drw c2), below_cell hB3 (cell_drw c3), below_cell hB3 (cell_drw c4), below_cell hB3 (cell_drw c5), below_cell hB3 (cell_drw d0), below_cell hB3 (cell_drw d1), below_cell hB3 (cell_drw d2), below_cell hB3 (cell_drw d3), below_cell hB3 (cell_drw d4), below_cell hB3 (cell_drw d5)⟩))
                  ((go_at_call 39; with_reducible refine (HBC.out _).mono ?_; rintro e w3 ⟨rfl, hB3⟩))
                obtain rfl := HP.out
                clear c0 c1 c2 c3 c4 c5 d0 d1 d2 d3 d4 d5
                have BW3 := Lib.hid (BL2.out.trans ((bt (below_drew _) hB3).mono BL2.out.size))
                clear hB3
                have BI := Lib.hid (BW3.out)
                have H1F := Lib.hid (HBV1.out)
                go_wp2_with fail
                go_loopg [5] p (fun g i wr => ∃ q : Nat, q + g = p ∧ i = .int .i64 (q : Nat) ∧ Hid (∀ j, j < q → bad2 T p j = false) ∧ Below w.heap.size w wr)
                case atStart => exact ⟨0, Nat.zero_add _, rfl, Lib.hid (fun j hj => absurd hj (Nat.not_lt_zero _)), BI.out⟩
                case round =>
                  obtain ⟨q, hg, rfl, HTI, hBi⟩ := hrel
                  have BLI := Lib.hid hBi
                  have HGI := Lib.hid hg
                  have hqn : q ≤ p := by omega
                  clear hg hBi
                  by_cases hlq : q < p
                  · have HLQ := Lib.hid hlq
                    have hqi : (q : Int) < ((p : Nat) : Int) := by omega
                    have hqk : (q : Int) < (k : Int) := by omega
                    obtain ⟨y, hy⟩ := HGET.out q (by omega)
                    obtain ⟨ad3, hA3, had, hrx⟩ := HR.out.below (BLI.out.mono hB) p x HXX.out
                    obtain rfl := Option.some.inj hA3
                    obtain ⟨ad2, hA2, had2, hry⟩ := HR.out.below (BLI.out.mono hB) q y hy
                    obtain rfl := Option.some.inj hA2
                    have HM2 := Lib.hid (HBD2.out p q x y HXX.out hy)
                    have c0 := hrx.c0
                    have c1 := hrx.c1
                    have c2 := hrx.c2
                    have c3 := hrx.c3
                    have c4 := hrx.c4
                    have c5 := hrx.c5
                    have d0 := hry.c0
                    have d1 := hry.c1
                    have d2 := hry.c2
                    have d3 := hry.c3
                    have d4 := hry.c4
                    have d5 := hry.c5
                    have HMC := Lib.hid (fun W => HME.out x y W)
                    clear hrx hry hy had had2 hlq
                    cases hm : meet x y with
                    | true =>
                      rw [hm] at HMC HM2
                      have hv23 := HBY.out p HLT.out (HB2.out p q HLQ.out HM2.out)
                      have HV23 := Lib.hid hv23
                      clear hv23 hm
                      go_wp2_with fail
                      go_region_held3 (fun X => X.cell? (ad.add (p * 6)) = some (.int .i64 x.kind) ∧ X.cell? ⟨(ad.add (p * 6)).block, (ad.add (p * 6)).off + 1, none⟩ = some (.int .i64 x.a) ∧ X.cell? ⟨(ad.add (p * 6)).block, (ad.add (p * 6)).off + 2, none⟩ = some (.int .i64 x.b) ∧ X.cell? ⟨(ad.add (p * 6)).block, (ad.add (p * 6)).off + 3, none⟩ = some (.int .i64 x.fr) ∧ X.cell? ⟨(ad.add (p * 6)).block, (ad.add (p * 6)).off + 4, none⟩ = some (.int .i64 x.un) ∧ X.cell? ⟨(ad.add (p * 6)).block, (ad.add (p * 6)).off + 5, none⟩ = some (.int .i64 x.rate) ∧ X.cell? (ad.add (q * 6)) = some (.int .i64 y.kind) ∧ X.cell? ⟨(ad.add (q * 6)).block, (ad.add (q * 6)).off + 1, none⟩ = some (.int .i64 y.a) ∧ X.cell? ⟨(ad.add (q * 6)).block, (ad.add (q * 6)).off + 2, none⟩ = some (.int .i64 y.b) ∧ X.cell? ⟨(ad.add (q * 6)).block, (ad.add (q * 6)).off + 3, none⟩ = some (.int .i64 y.fr) ∧ X.cell? ⟨(ad.add (q * 6)).block, (ad.add (q * 6)).off + 4, none⟩ = some (.int .i64 y.un) ∧ X.cell? ⟨(ad.add (q * 6)).block, (ad.add (q * 6)).off + 5, none⟩ = some (.int .i64 y.rate)) (with_reducible (first | exact ⟨cell_drw c0, cell_drw c1, cell_drw c2, cell_drw c3, cell_drw c4, cell_drw c5, cell_drw d0, cell_drw d1, cell_drw d2, cell_drw d3, cell_drw d4, cell_drw d5⟩ | exact ⟨below_cell hB3 (cell_drw c0), below_cell hB3 (cell_drw c1), below_cell hB3 (cell_drw c2), below_cell hB3 (cell_drw c3), below_cell hB3 (cell_drw c4), below_cell hB3 (cell_drw c5), below_cell hB3 (cell_drw d0), below_cell hB3 (cell_drw d1), below_cell hB3 (cell_drw d2), below_cell hB3 (cell_drw d3), below_cell hB3 (cell_drw d4), below_cell hB3 (cell_drw d5)⟩))
                        ((go_at_call 40; with_reducible refine (HMC.out _).mono ?_; rintro e w3 ⟨rfl, hB3⟩))
                      all_goals go_wp2_with fail
                      all_goals go_ret
                      all_goals exact ⟨by rw [HR23.out HV.out HV23.out]; rfl, BLI.out.trans ((bt (below_drew _) hB3).mono BLI.out.size)⟩
                    | false =>
                      rw [hm] at HMC HM2
                      clear hm
                      go_wp2_with fail
                      go_region_held3 (fun X => X.cell? (ad.add (p * 6)) = some (.int .i64 x.kind) ∧ X.cell? ⟨(ad.add (p * 6)).block, (ad.add (p * 6)).off + 1, none⟩ = some (.int .i64 x.a) ∧ X.cell? ⟨(ad.add (p * 6)).block, (ad.add (p * 6)).off + 2, none⟩ = some (.int .i64 x.b) ∧ X.cell? ⟨(ad.add (p * 6)).block, (ad.add (p * 6)).off + 3, none⟩ = some (.int .i64 x.fr) ∧ X.cell? ⟨(ad.add (p * 6)).block, (ad.add (p * 6)).off + 4, none⟩ = some (.int .i64 x.un) ∧ X.cell? ⟨(ad.add (p * 6)).block, (ad.add (p * 6)).off + 5, none⟩ = some (.int .i64 x.rate) ∧ X.cell? (ad.add (q * 6)) = some (.int .i64 y.kind) ∧ X.cell? ⟨(ad.add (q * 6)).block, (ad.add (q * 6)).off + 1, none⟩ = some (.int .i64 y.a) ∧ X.cell? ⟨(ad.add (q * 6)).block, (ad.add (q * 6)).off + 2, none⟩ = some (.int .i64 y.b) ∧ X.cell? ⟨(ad.add (q * 6)).block, (ad.add (q * 6)).off + 3, none⟩ = some (.int .i64 y.fr) ∧ X.cell? ⟨(ad.add (q * 6)).block, (ad.add (q * 6)).off + 4, none⟩ = some (.int .i64 y.un) ∧ X.cell? ⟨(ad.add (q * 6)).block, (ad.add (q * 6)).off + 5, none⟩ = some (.int .i64 y.rate)) (with_reducible (first | exact ⟨cell_drw c0, cell_drw c1, cell_drw c2, cell_drw c3, cell_drw c4, cell_drw c5, cell_drw d0, cell_drw d1, cell_drw d2, cell_drw d3, cell_drw d4, cell_drw d5⟩ | exact ⟨below_cell hB3 (cell_drw c0), below_cell hB3 (cell_drw c1), below_cell hB3 (cell_drw c2), below_cell hB3 (cell_drw c3), below_cell hB3 (cell_drw c4), below_cell hB3 (cell_drw c5), below_cell hB3 (cell_drw d0), below_cell hB3 (cell_drw d1), below_cell hB3 (cell_drw d2), below_cell hB3 (cell_drw d3), below_cell hB3 (cell_drw d4), below_cell hB3 (cell_drw d5)⟩))
                        ((go_at_call 40; with_reducible refine (HMC.out _).mono ?_; rintro e w3 ⟨rfl, hB3⟩))
                      all_goals go_wp2_with fail
                      all_goals go_roundg (gk - 1)
                      case measure => have := HGI.out; have := HLQ.out; omega
                      case rel => exact ⟨q + 1, by have := HGI.out; have := HLQ.out; omega, by go_num, Lib.hid (fun j hj => by
                        rcases Nat.lt_or_ge j q with h | h
                        · exact HTI.out j h
                        · obtain rfl : j = q := by omega
                          exact HM2.out), BLI.out.trans ((bt (below_drew _) hB3).mono BLI.out.size)⟩
                  · obtain rfl : q = p := by omega
                    have HBF := Lib.hid (HB0.out q H1F.out HTI.out)
                    clear hlq
                    go_wp2_with fail
                    go_roundg (g2 - 1)
                    case measure => have := HGG.out; have := HGE.out; have := HLT.out; omega
                    case rel => exact ⟨q + 1, by have := HGG.out; have := HLT.out; omega, by go_num, Lib.hid (fun j hj => by
                      rcases Nat.lt_or_ge j q with h | h
                      · exact HT.out j h
                      · obtain rfl : j = q := by omega
                        exact HBF.out), BLI.out⟩
          · obtain rfl : n = k := by omega
            have HV2 := Lib.hid (HBN.out HT.out)
            clear hlt
            go_wp2_with fail
            go_ret
            exact ⟨by rw [HR0.out HV.out HV2.out]; rfl, BL2.out⟩
end Q
end Go.Proofs.Ytojflmejkigdiaa
