/-
  The landed Check.
-/
import Derived.Test.YtobbnbelacncjaaPwPg
namespace Go.Proofs.Ytobbnbelacncjaa
open Go.RowKit
namespace Pw
open H
set_option linter.unusedVariables false
set_option linter.unusedSimpArgs false
set_option maxRecDepth 100000
set_option maxHeartbeats 4000000 in
theorem pcheck_any (b : Bt) (T : List Ld) (A : Option Addr) (cap B : Nat) (w : World) (hB : B ≤ w.heap.size) (hlen : T.length ≤ cap ∧ cap ≤ maxLen) (hR : RdsLd w B A T) :
    Calls Try.prog 14 #[b.v, .slice A T.length cap] w fun e w' => e = .returned (.int .i64 (chkB b T)) ∧ Below w.heap.size w w' := by
  have HV := Lib.hid (fun W => pvalid_any b W)
  have HBT := Lib.hid (fun n lo hi W => pbetween_any n lo hi W)
  have HR := Lib.hid hR
  have HSPT : Hid (∀ ad, A = some ad → 0 < T.length → ad.spot = none) := Lib.hid (fun ad hA h => by subst hA; exact rds_spot hR h)
  have HGET := Lib.hid (fun k (hk : k < T.length) => (⟨T[k], List.getElem?_eq_getElem hk⟩ : ∃ x, T[k]? = some x))
  have HRA : Hid (∀ (i : Nat) (x : Ld), ck T i = 0 → T[i]? = some x → (x.pow < 0 ∨ 2147483647 < x.pow) → ck T T.length = 5) := Lib.hid (fun i x h1 h2 h3 => ck_range h1 h2 h3)
  have HDU : Hid (∀ (i : Nat) (x : Ld), ck T i = 0 → T[i]? = some x → ¬ (x.pow < 0 ∨ 2147483647 < x.pow) → (T.take i).any (fun y => decide (y.id = x.id)) = true → ck T T.length = 4) := Lib.hid (fun i x h1 h2 h3 h4 => ck_dup2 h1 h2 h3 h4)
  have HNX : Hid (∀ (i : Nat) (x : Ld), ck T i = 0 → T[i]? = some x → ¬ (x.pow < 0 ∨ 2147483647 < x.pow) → (T.take i).any (fun y => decide (y.id = x.id)) = false → ck T (i + 1) = 0) := Lib.hid (fun i x h1 h2 h3 h4 => ck_next2 h1 h2 h3 h4)
  have HH : Hid (∀ (q : Nat) (ad : Addr) (i : Int) (W : World), A = some ad → ad.spot = none → ad.block < B → q ≤ T.length → q ≤ 64 → Below w.heap.size w W → Calls Try.prog 35 #[.slice (some ad) q cap, .int .i64 i] W fun e w' => e = .returned (.bool ((T.take q).any fun y => decide (y.id = i))) ∧ Below W.heap.size W w') := Lib.hid (fun q ad i W hA hs hb hq hq64 hW => by
    have h := phas_any (T.take q) ad cap B i W hs (Nat.le_trans hB hW.size) hb (by rw [List.length_take]; omega) (by rw [← hA]; exact rds_take (hR.below (hW.mono hB)) q)
    rwa [List.length_take, Nat.min_eq_left hq] at h)
  have HCK : Hid (∀ r, ck T T.length = r → b.ok = true → ¬ 64 < T.length → chkB b T = r) := Lib.hid (fun r h1 h2 h3 => by unfold chkB; rw [if_pos h2, if_neg h3]; exact h1)
  have HCL : Hid (b.ok = true → 64 < T.length → chkB b T = 2) := Lib.hid (fun h1 h2 => by unfold chkB; rw [if_pos h1, if_pos h2])
  have HCB : Hid (b.ok = false → chkB b T = 5) := Lib.hid (fun h1 => by unfold chkB; rw [if_neg (by rw [h1]; simp)])
  unfold maxLen at hlen
  obtain ⟨hl1, hl2⟩ := hlen
  clear hR
  generalize T.length = len at *
  generalize chkB b T = res at *
  generalize b.ok = bo at *
  obtain ⟨bc, bg, br⟩ := b
  cases bo with
  | false =>
    have HE := Lib.hid (HCB.out rfl)
    go_enter Try.func14, Try.ntmps14
    go_wp2_with (go_at_call 33; refine (HV.out _).mono ?_; rintro e w2 ⟨rfl, hb⟩)
    go_ret
    exact ⟨by rw [HE.out]; rfl, belT _ hb⟩
  | true =>
    by_cases h64 : 64 < len
    · have HE := Lib.hid (HCL.out rfl h64)
      go_enter Try.func14, Try.ntmps14
      go_wp2_with (go_at_call 33; refine (HV.out _).mono ?_; rintro e w2 ⟨rfl, hb⟩)
      go_ret
      exact ⟨by rw [HE.out]; rfl, belT _ hb⟩
    · have HE := Lib.hid (fun r h => HCK.out r h rfl h64)
      have HN64 := Lib.hid h64
      go_enter Try.func14, Try.ntmps14
      go_wp2_with (go_at_call 33; refine (HV.out _).mono ?_; rintro e w2 ⟨rfl, hb⟩; have HB0 := Lib.hid (belT _ hb); clear hb)
      go_loopg [15] len (fun g i wr => ∃ q : Nat, q + g = len ∧ i = .int .i64 (q : Nat) ∧ Hid (ck T q = 0) ∧ Below w.heap.size w wr)
      case atStart => exact ⟨0, Nat.zero_add _, rfl, Lib.hid rfl, HB0.out⟩
      case round =>
        obtain ⟨q, hg, rfl, HT, hB2⟩ := hrel
        have BEL := Lib.hid hB2
        have HG := Lib.hid hg
        have hqn : q ≤ len := by omega
        clear hg hB2
        by_cases hlt : q < len
        · have HLT := Lib.hid hlt
          have hqi : (q : Int) < (len : Int) := by omega
          obtain ⟨x, hx⟩ := HGET.out q hlt
          obtain ⟨ad, hA, had, hr⟩ := HR.out.below (BEL.out.mono hB) q x hx
          have hsp := HSPT.out ad hA (by omega)
          subst hA
          have c0 := hr.c0
          have c1 := hr.c1
          have c2 := hr.c2
          have c3 := hr.c3
          have HXX := Lib.hid hx
          have HAD := Lib.hid had
          have HSP := Lib.hid hsp
          clear hr hx had hlt hsp
          obtain ⟨xi, xp, xr, xe⟩ := x
          dsimp only at *
          obtain ⟨W1, hW1⟩ : ∃ W1, W1 = wr.alloc (.cells #[.int .i64 xi, .int .i64 xp, .int .i64 xr, .bool xe] 41) := ⟨_, rfl⟩
          have LB1 : Lb W1 wr.heap.size ⟨xi, xp, xr, xe⟩ := by rw [hW1]; exact Lb.new wr ⟨xi, xp, xr, xe⟩
          have HBW1 : Hid (Below w.heap.size w W1) := Lib.hid (by rw [hW1]; exact bt BEL.out (bel1 wr _))
          by_cases hrg : xp < 0 ∨ 2147483647 < xp
          · have HE2 := Lib.hid (HE.out _ (HRA.out q _ HT.out HXX.out hrg))
            have HD : Hid (decide (0 ≤ xp ∧ xp ≤ 2147483647) = false) := Lib.hid (decide_eq_false (by omega))
            clear hrg
            go_wp2_with (go_at_call 34; rw [← hW1]; refine (HBT.out _ _ _ _).mono ?_; rintro e w3 ⟨rfl, rfl⟩; rw [HD.out])
            go_ret
            exact ⟨by rw [HE2.out]; rfl, by first | exact HBW1.out | (rw [← hW1]; exact HBW1.out)⟩
          · have HD : Hid (decide (0 ≤ xp ∧ xp ≤ 2147483647) = true) := Lib.hid (decide_eq_true (by omega))
            have HRG := Lib.hid hrg
            clear hrg
            go_upto_region 10 with (go_at_call 34; rw [← hW1]; refine (HBT.out _ _ _ _).mono ?_; rintro e w3 ⟨rfl, rfl⟩; rw [HD.out])
            rw [← hW1]
            obtain ⟨r0, r1, r2, r3⟩ := LB1.cells
            have r0' := cell_drw r0
            have HHC := Lib.hid (HH.out q ad xi W1.drew rfl HSP.out HAD.out hqn (by have := HN64.out; omega) (bt HBW1.out (below_drew W1)))
            have HD2 : Hid (∀ r, ((T.take q).any fun y => decide (y.id = xi)) = r → r = true → ck T len = 4) := Lib.hid (fun r h1 h2 => HDU.out q ⟨xi, xp, xr, xe⟩ HT.out HXX.out HRG.out (h1.trans h2))
            have HN2 : Hid (∀ r, ((T.take q).any fun y => decide (y.id = xi)) = r → r = false → ck T (q + 1) = 0) := Lib.hid (fun r h1 h2 => HNX.out q ⟨xi, xp, xr, xe⟩ HT.out HXX.out HRG.out (h1.trans h2))
            generalize hany : ((T.take q).any fun y => decide (y.id = xi)) = dup at *
            have HA2 := Lib.hid hany
            have hq0 : (0 : Int) ≤ (q : Int) := by omega
            have hqc : (q : Int) ≤ (cap : Int) := by omega
            have hqn' : q ≤ cap := by omega
            clear hany hW1 LB1 r0 r1 r2 r3 c0 c1 c2 c3
            go_region_held3 (fun V => V.cell? ⟨wr.heap.size, 0, none⟩ = some (.int .i64 xi)) (with_reducible assumption)
              ((go_at_call 35; with_reducible refine HHC.out.mono ?_; rintro e w3 ⟨rfl, hb3⟩; have r0'' := below_cell hb3 r0'; have HB3 := Lib.hid hb3; clear hb3))
            cases dup with
            | true =>
              have HE2 := Lib.hid (HE.out _ (HD2.out _ rfl rfl))
              go_wp2_with fail
              go_ret
              exact ⟨by rw [HE2.out]; rfl, bt HBW1.out (bt (below_drew W1) HB3.out)⟩
            | false =>
              have HN3 := Lib.hid (HN2.out _ rfl rfl)
              go_wp2_with fail
              go_roundg (gk - 1)
              case measure => have := HG.out; have := HLT.out; omega
              case rel => exact ⟨q + 1, by have := HG.out; have := HLT.out; omega, by go_num, HN3, bt HBW1.out (bt (below_drew W1) HB3.out)⟩
        · obtain rfl : q = len := by omega
          have HE2 := Lib.hid (HE.out _ HT.out)
          have hqi : ¬ (q : Int) < (q : Int) := by omega
          go_wp2_with fail
          go_ret
          exact ⟨by rw [HE2.out]; rfl, BEL.out⟩
end Pw
end Go.Proofs.Ytobbnbelacncjaa
