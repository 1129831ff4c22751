/-
  perigeeref10: Made.
-/
import Derived.Test.YtobbnbelacncjaaPwR3
namespace Go.Proofs.Ytobbnbelacncjaa
open Go.RowKit
namespace Pw
open H
set_option linter.unusedVariables false
set_option linter.unusedSimpArgs false
set_option maxRecDepth 100000
def small (x : Ld) : Ld := ⟨x.id, md x.pow 1001, x.pri, x.ess⟩
def addM (L : List Ld) (x : Ld) : List Ld := if L.any (fun y => decide (y.id = x.id)) = true then L else L ++ [small x]
def madeL (L : List Ld) : List Ld := (L.take 10).foldl addM []
theorem made_step {T : List Ld} {x : Ld} {i : Nat} (h : T[i]? = some x) (hi : i < 10) : madeL (T.take (i + 1)) = addM (madeL (T.take i)) x := by
  unfold madeL
  rw [List.take_take, List.take_take, Nat.min_eq_right (by omega), Nat.min_eq_right (by omega), List.take_add_one, h, Option.toList_some, List.foldl_append]
  rfl
theorem made_len (T : List Ld) (i : Nat) : (madeL (T.take i)).length ≤ 10 := by
  have hf : ∀ (L M : List Ld), (L.foldl addM M).length ≤ M.length + L.length := by
    intro L
    induction L with
    | nil => simp
    | cons x L ih =>
      intro M
      rw [List.foldl_cons]
      have h1 := ih (addM M x)
      have h2 : (addM M x).length ≤ M.length + 1 := by unfold addM; split <;> simp
      rw [List.length_cons]
      omega
  have h := hf ((T.take i).take 10) []
  have h2 : ((T.take i).take 10).length ≤ 10 := by rw [List.length_take]; omega
  unfold madeL
  simp at h
  omega
theorem any_take {L : List Ld} {x y : Ld} {k : Nat} (h : L[k]? = some y) : (L.take (k + 1)).any (fun y => decide (y.id = x.id)) = ((L.take k).any (fun y => decide (y.id = x.id)) || decide (y.id = x.id)) := by
  rw [List.take_add_one, h, Option.toList_some, List.any_append]
  simp
set_option maxHeartbeats 8000000 in
theorem rmade_any (T : List Ld) (A : Option Addr) (cap B : Nat) (w : World) (hB : B ≤ w.heap.size) (hlen : T.length ≤ 140737488351232) (hT : ∀ x ∈ T, I64 x.pow) (hR : RdsLd w B A T) :
    Calls Try.prog 13 #[.slice A T.length cap] w fun e w' => ∃ v, e = .returned v ∧ w'.ownsRow w.heap.size 41 4 v (madeL T).length (flat4 (madeL T)) ∧ Below w.heap.size w w' := by
  obtain ⟨i0, hi, hz0, hz1, hz2⟩ := info_parts infoL
  have HR := Lib.hid hR
  have HGET := Lib.hid (fun k (hk : k < T.length) => (⟨T[k], List.getElem?_eq_getElem hk⟩ : ∃ x, T[k]? = some x))
  have HI := Lib.hid (fun i x (h : T[i]? = some x) => hT x (List.mem_of_getElem? h))
  have HST := Lib.hid (fun i x (h : T[i]? = some x) hi => made_step h hi)
  have HLN := Lib.hid (fun i => made_len T i)
  have HALL : Hid (∀ i, i ≤ 10 → (i = T.length ∨ i = 10) → madeL (T.take i) = madeL T) := Lib.hid (fun i h1 h2 => by
    unfold madeL
    rw [List.take_take]
    rcases h2 with rfl | rfl
    · rw [Nat.min_eq_right h1, List.take_length, List.take_of_length_le h1]
    · rfl)
  have H0 : Hid (madeL (T.take 0) = []) := Lib.hid rfl
  clear hR hT
  generalize T.length = len at *
  generalize madeL T = res at *
  go_enter Try.func13, Try.ntmps13
  go_wp2_with fail
  go_loopg [3, 4] 10 (fun g s i wr => ∃ q : Nat, q + g = 10 ∧ i = .int .i64 (q : Nat) ∧ q ≤ len ∧ wr.ownsRow w.heap.size 41 4 s (madeL (T.take q)).length (flat4 (madeL (T.take q))) ∧ Below w.heap.size w wr)
  case atStart => exact ⟨0, rfl, rfl, Nat.zero_le _, by rw [H0.out]; exact World.ownsRow_nil _ _ _ _, Below.refl _ _⟩
  case round =>
    obtain ⟨q, hg, rfl, hqn, hO, hB2⟩ := hrel
    have BEL := Lib.hid hB2
    have HG := Lib.hid hg
    have HO := Lib.hid hO
    obtain ⟨A3, k3, rfl⟩ := own_shape4 hO
    have hq10 : q ≤ 10 := by omega
    clear hg hB2 hO
    by_cases hlt : q < len
    · have hqi : (q : Int) < (len : Int) := by omega
      by_cases hlt2 : q < 10
      · have hqj : (q : Int) < 10 := by omega
        have HLT := Lib.hid (And.intro hlt hlt2)
        obtain ⟨x, hx⟩ := HGET.out q hlt
        obtain ⟨ad, rfl, had, hr⟩ := HR.out.below (BEL.out.mono hB) q x hx
        have c0 := hr.c0
        have c1 := hr.c1
        have c2 := hr.c2
        have c3 := hr.c3
        have hpw := HI.out q x hx
        have k1 := uz_wrap hpw
        have k2 := uz_mod (m := 1001) hpw
        have hmd := md_bd x.pow (m := 1001) (by omega)
        have kk3 : wrap64 (md x.pow 1001) = md x.pow 1001 := IntWalk.wrap64_in _ (by omega)
        have HSX := Lib.hid (HST.out q x hx hlt2)
        have hln := HLN.out q
        have HHI : Hid (small x = ⟨x.id, md x.pow 1001, x.pri, x.ess⟩) := Lib.hid rfl
        obtain ⟨g2, hg2e⟩ : ∃ g2, g2 = gk := ⟨_, rfl⟩
        have HGG : Hid (q + g2 = 10) := Lib.hid (by rw [hg2e]; exact HG.out)
        have HGE := Lib.hid hg2e
        clear hr hx had hlt hlt2 hg2e HG hpw
        generalize madeL (T.take q) = O at *
        generalize uz x.pow = ux at *
        generalize hmx : md x.pow 1001 = mx at *
        have HMX := Lib.hid hmx
        clear hmx
        go_upto_region 7 with fail
        have hbx0 := heap_top wr (.cells #[.int .i64 x.id, .int .i64 mx, .int .i64 x.pri, .bool x.ess] 41)
        have hO5 := ownsRow_below HO.out (bel1 wr (.cells #[.int .i64 x.id, .int .i64 mx, .int .i64 x.pri, .bool x.ess] 41))
        have hB5 := BEL.out.trans ((bel1 wr (.cells #[.int .i64 x.id, .int .i64 mx, .int .i64 x.pri, .bool x.ess] 41)).mono BEL.out.size)
        have hbs := BEL.out.size
        obtain ⟨W5, hW5⟩ : ∃ W5, W5 = wr.alloc (.cells #[.int .i64 x.id, .int .i64 mx, .int .i64 x.pri, .bool x.ess] 41) := ⟨_, rfl⟩
        obtain ⟨bx, hbx⟩ : ∃ bx, bx = wr.heap.size := ⟨_, rfl⟩
        have hbw : bx < W5.heap.size := by rw [hbx, hW5]; simp
        have hws : w.heap.size ≤ bx := by rw [hbx]; exact hbs
        rw [← hW5] at hbx0 hO5 hB5 ⊢
        rw [← hbx] at hbx0 ⊢
        have HBX := Lib.hid hbx0
        have HO5 := Lib.hid hO5
        have HB5 := Lib.hid hB5
        have HRD := Lib.hid (fun (W : World) (hW : Below W5.heap.size W5 W) => own_rds4 (ownsRow_below hO5 hW))
        have HGO := Lib.hid (fun k (hk : k < O.length) => (⟨O[k], List.getElem?_eq_getElem hk⟩ : ∃ x, O[k]? = some x))
        have HAT := Lib.hid (fun k y (h : O[k]? = some y) => any_take (x := x) h)
        have HAL : Hid ((O.take O.length).any (fun y => decide (y.id = x.id)) = O.any (fun y => decide (y.id = x.id))) := Lib.hid (by rw [List.take_length])
        have HA0 : Hid ((O.take 0).any (fun y => decide (y.id = x.id)) = false) := Lib.hid rfl
        clear hbx0 hO5 hB5 hbs hW5 hbx c0 c1 c2 c3 BEL HO
        generalize hon : O.length = on at *
        have HON := Lib.hid hon
        clear hon
        go_upto_region 9 with fail
        go_loopg [6, 7] on (fun g s6 s7 wr2 => ∃ k : Nat, k + g = on ∧ s7 = .int .i64 (k : Nat) ∧ s6 = .bool ((O.take k).any (fun y => decide (y.id = x.id))) ∧ Below W5.heap.size W5 wr2)
        case atStart => exact ⟨0, Nat.zero_add _, rfl, by rw [HA0.out], Below.refl _ _⟩
        case round =>
          obtain ⟨k, hgk, rfl, rfl, hB6⟩ := hrel
          have BEL := Lib.hid hB6
          have HGK := Lib.hid hgk
          have hkn : k ≤ on := by omega
          have hbox : wr.heap[bx]? = some (.cells #[.int .i64 x.id, .int .i64 mx, .int .i64 x.pri, .bool x.ess] 41 (0, 0)) := heap_keep hB6 HBX.out
          clear hgk
          by_cases hk : k < on
          · have hki : (k : Int) < (on : Int) := by omega
            obtain ⟨y, hy⟩ := HGO.out k hk
            have HY := Lib.hid (HAT.out k y hy)
            obtain ⟨ad3, rfl, _, hr3⟩ := HRD.out wr hB6 k y hy
            have d0 := hr3.c0
            have b0 : wr.cell? ⟨bx, 0, none⟩ = some (.int .i64 x.id) := by rw [cell_obj hbox]; rfl
            have HK := Lib.hid hk
            clear hB6 hbox hy hr3
            generalize (O.take k).any (fun y => decide (y.id = x.id)) = kn at *
            cases kn with
            | true =>
              go_upto_region 11 with fail
              refine wp_region_held_drew (S := fun _ => True) (by kernel_rfl) trivial (fun hHeld => ?_)
              refine wpAnyH_take (i := 0) (oi := { dst := some 34, op := _, type := _, pos := _, after := _, guard := _ }) (v := ?_) rfl (by kernel_rfl) (by kernel_rfl) (by kernel_rfl) (fun _ _ _ h => h) (Or.inl ⟨by rfl, ?_⟩) (by assumption) ?_
              rotate_left
              · (intro w hSw; (try dsimp only at hSw); go_simp)
                first | done | with_reducible rfl
              try simp only [Act.put, List.setIfInBounds_toArray, List.set_cons_zero, List.set_cons_succ]
              refine wpAnyH_take (i := 1) (oi := { dst := some 35, op := _, type := _, pos := _, after := _, guard := _ }) (v := ?_) rfl (by kernel_rfl) (by kernel_rfl) (by kernel_rfl) (fun _ _ _ h => h) (Or.inl ⟨by rfl, ?_⟩) (by assumption) ?_
              rotate_left
              · (intro w hSw; (try dsimp only at hSw); go_simp)
                first | done | with_reducible rfl
              try simp only [Act.put, List.setIfInBounds_toArray, List.set_cons_zero, List.set_cons_succ]
              refine wpAnyH_take (i := 2) (oi := { dst := some 36, op := _, type := _, pos := _, after := _, guard := _ }) (v := undef) rfl (by kernel_rfl) (by kernel_rfl) (by kernel_rfl) (fun _ _ _ h => h) (Or.inr ⟨by rfl, rfl⟩) (by assumption) ?_
              try simp only [Act.put, List.setIfInBounds_toArray, List.set_cons_zero, List.set_cons_succ]
              refine wpAnyH_take (i := 3) (oi := { dst := some 37, op := _, type := _, pos := _, after := _, guard := _ }) (v := undef) rfl (by kernel_rfl) (by kernel_rfl) (by kernel_rfl) (fun _ _ _ h => h) (Or.inr ⟨by rfl, rfl⟩) (by assumption) ?_
              try simp only [Act.put, List.setIfInBounds_toArray, List.set_cons_zero, List.set_cons_succ]
              refine wpAnyH_take (i := 4) (oi := { dst := some 38, op := _, type := _, pos := _, after := _, guard := _ }) (v := undef) rfl (by kernel_rfl) (by kernel_rfl) (by kernel_rfl) (fun _ _ _ h => h) (Or.inr ⟨by rfl, rfl⟩) (by assumption) ?_
              try simp only [Act.put, List.setIfInBounds_toArray, List.set_cons_zero, List.set_cons_succ]
              refine wpAnyH_take (i := 5) (oi := { dst := some 39, op := _, type := _, pos := _, after := _, guard := _ }) (v := undef) rfl (by kernel_rfl) (by kernel_rfl) (by kernel_rfl) (fun _ _ _ h => h) (Or.inr ⟨by rfl, rfl⟩) (by assumption) ?_
              try simp only [Act.put, List.setIfInBounds_toArray, List.set_cons_zero, List.set_cons_succ]
              refine wpAnyH_take (i := 6) (oi := { dst := some 40, op := _, type := _, pos := _, after := _, guard := _ }) (v := undef) rfl (by kernel_rfl) (by kernel_rfl) (by kernel_rfl) (fun _ _ _ h => h) (Or.inr ⟨by rfl, rfl⟩) (by assumption) ?_
              try simp only [Act.put, List.setIfInBounds_toArray, List.set_cons_zero, List.set_cons_succ]
              refine wpAnyH_take (i := 7) (oi := { dst := some 41, op := _, type := _, pos := _, after := _, guard := _ }) (v := undef) rfl (by kernel_rfl) (by kernel_rfl) (by kernel_rfl) (fun _ _ _ h => h) (Or.inr ⟨by rfl, rfl⟩) (by assumption) ?_
              try simp only [Act.put, List.setIfInBounds_toArray, List.set_cons_zero, List.set_cons_succ]
              refine wpAnyH_take (i := 8) (oi := { dst := some 42, op := _, type := _, pos := _, after := _, guard := _ }) (v := undef) rfl (by kernel_rfl) (by kernel_rfl) (by kernel_rfl) (fun _ _ _ h => h) (Or.inr ⟨by rfl, rfl⟩) (by assumption) ?_
              try simp only [Act.put, List.setIfInBounds_toArray, List.set_cons_zero, List.set_cons_succ]
              refine wpAnyH_take (i := 9) (oi := { dst := some 43, op := _, type := _, pos := _, after := _, guard := _ }) (v := undef) rfl (by kernel_rfl) (by kernel_rfl) (by kernel_rfl) (fun _ _ _ h => h) (Or.inr ⟨by rfl, rfl⟩) (by assumption) ?_
              try simp only [Act.put, List.setIfInBounds_toArray, List.set_cons_zero, List.set_cons_succ]
              refine wpAnyH_take (i := 10) (oi := { dst := some 44, op := _, type := _, pos := _, after := _, guard := _ }) (v := ?_) rfl (by kernel_rfl) (by kernel_rfl) (by kernel_rfl) (fun _ _ _ h => h) (Or.inl ⟨by rfl, ?_⟩) (by assumption) ?_
              rotate_left
              · (intro w hSw; (try dsimp only at hSw); go_simp)
                first | done | with_reducible rfl
              try simp only [Act.put, List.setIfInBounds_toArray, List.set_cons_zero, List.set_cons_succ]
              refine wpAnyH_take (i := 11) (oi := { dst := some 6, op := _, type := _, pos := _, after := _, guard := _ }) (v := ?_) rfl (by kernel_rfl) (by kernel_rfl) (by kernel_rfl) (fun _ _ _ h => h) (Or.inl ⟨by rfl, ?_⟩) (by assumption) ?_
              rotate_left
              · (intro w hSw; (try dsimp only at hSw); go_simp)
                first | done | with_reducible rfl
              try simp only [Act.put, List.setIfInBounds_toArray, List.set_cons_zero, List.set_cons_succ]
              refine wpAnyH_done (by kernel_rfl) ?_ _
              go_wp2_with fail
              go_roundg (gk - 1)
              case measure => have := HGK.out; have := HK.out; omega
              case rel => exact ⟨k + 1, by have := HGK.out; have := HK.out; omega, by go_num, by rw [HY.out]; rfl, BEL.out.drew⟩
            | false =>
              go_upto_region 11 with fail
              by_cases hid : y.id = x.id
              · have HID := Lib.hid hid
                go_region
                all_goals go_wp2_with fail
                all_goals go_roundg (gk - 1)
                case measure => have := HGK.out; have := HK.out; omega
                case rel => exact ⟨k + 1, by have := HGK.out; have := HK.out; omega, by go_num, by rw [HY.out, decide_eq_true HID.out]; simp [HID.out], BEL.out.drew⟩
              · have HID := Lib.hid hid
                go_region
                all_goals go_wp2_with fail
                all_goals go_roundg (gk - 1)
                case measure => have := HGK.out; have := HK.out; omega
                case rel => exact ⟨k + 1, by have := HGK.out; have := HK.out; omega, by go_num, by rw [HY.out, decide_eq_false HID.out]; simp [HID.out], BEL.out.drew⟩
          · have hki : ¬ (k : Int) < (on : Int) := by omega
            have hke : k = on := by omega
            have b0 : wr.cell? ⟨bx, 0, none⟩ = some (.int .i64 x.id) := by rw [cell_obj hbox]; rfl
            have b1 : wr.cell? ⟨bx, 1, none⟩ = some (.int .i64 mx) := by rw [cell_obj hbox]; rfl
            have b2 : wr.cell? ⟨bx, 2, none⟩ = some (.int .i64 x.pri) := by rw [cell_obj hbox]; rfl
            have b3 : wr.cell? ⟨bx, 3, none⟩ = some (.bool x.ess) := by rw [cell_obj hbox]; rfl
            have HOW := Lib.hid (ownsRow_below HO5.out hB6)
            have HBW := Lib.hid (HB5.out.trans (hB6.mono HB5.out.size))
            rw [hke, HAL.out]
            have HEQ : Hid (addM O x = if O.any (fun y => decide (y.id = x.id)) = true then O else O ++ [small x]) := Lib.hid rfl
            clear hB6 hbox
            generalize O.any (fun y => decide (y.id = x.id)) = kn at *
            cases kn with
            | true =>
              have HEQ2 : Hid (madeL (T.take (q + 1)) = O) := Lib.hid (by rw [HSX.out, HEQ.out, if_pos (by first | rfl | trivial)])
              clear HEQ
              go_wp2_with fail
              go_roundg (g2 - 1)
              case measure => have := HGG.out; have := HGE.out; omega
              case rel => exact ⟨q + 1, by have := HGG.out; have := HLT.out; omega, by go_num, by have := HLT.out; omega, by rw [HEQ2.out, HON.out]; exact HOW.out, HBW.out⟩
            | false =>
              have HEQ2 : Hid (madeL (T.take (q + 1)) = O ++ [small x]) := Lib.hid (by rw [HSX.out, HEQ.out, if_neg (by first | exact Bool.false_ne_true | simp)])
              clear HEQ
              go_wp2_with (at_builtin; refine wpList_append_new rfl (.tmp 47) (.tmp 49) 24 rfl w.heap.size 41 i0 (.agg #[.int .i64 0, .int .i64 0, .int .i64 0, .bool false]) 4 32 Try.underlying24 hi hz0 hz1 hz2 rfl (by decide) (.slice A3 on k3) on (flat4 O) rfl (ownsRow_below HOW.out (bel1 wr _)) wr.heap.size 1 [.int .i64 x.id, .int .i64 mx, .int .i64 x.pri, .bool x.ess] rfl rfl (fun j u hu => by rw [cell_top]; rw [← hu]; simp) (by intro u hu; simp only [List.mem_cons, List.not_mem_nil, or_false] at hu; rcases hu with rfl | rfl | rfl | rfl <;> rfl) (by unfold maxLen; omega) (by omega) (by have := HBW.out.size; simp; omega) ?_; intro v2 w7 ho2 hB7; have HO2 := Lib.hid ho2; have HB7 := Lib.hid hB7; clear ho2 hB7)
              go_roundg (g2 - 1)
              case measure => have := HGG.out; have := HGE.out; omega
              case rel => exact ⟨q + 1, by have := HGG.out; have := HLT.out; omega, by go_num, by have := HLT.out; omega, by
                have h := HO2.out
                rw [HEQ2.out, flat4_snoc, HHI.out, List.length_append, HON.out]
                exact h, (HBW.out.trans ((bel1 wr _).mono HBW.out.size)).trans HB7.out⟩
      · have hqj : ¬ (q : Int) < 10 := by omega
        have HF := Lib.hid (HALL.out q hq10 (.inr (by omega)))
        go_wp2_with fail
        go_ret
        exact ⟨_, rfl, by rw [← HF.out]; exact HO.out, BEL.out⟩
    · have hqi : ¬ (q : Int) < (len : Int) := by omega
      have HF := Lib.hid (HALL.out q hq10 (.inl (by omega)))
      go_wp2_with fail
      go_ret
      exact ⟨_, rfl, by rw [← HF.out]; exact HO.out, BEL.out⟩
end Pw
end Go.Proofs.Ytobbnbelacncjaa
