/-
  For all numbers, crafts, stations, ticks, sizes and places, OrbitFewer returns true: without one of the windows no message arrives earlier, the shorter table is still accepted, and the chapter's examples hold.
-/
import Derived.Test.YtojflmejkigdiaaQSub
import Derived.Test.YtojflmejkigdiaaQLiv
import Derived.Deep.DeepCutAuto
import Derived.Deep.RegionHeld3
import Derived.Deep.LoopGhost
import Derived.Deep.QuietTactic
namespace Go.Proofs.Ytojflmejkigdiaa.orbitFewer
open Go.ChangeShapes Go.WideShapes Go.ChangeAt Go.RowKit
open Go.ChangeMaps (open_string shut_string)
set_option linter.unusedVariables false

set_option maxRecDepth 100000 in
set_option maxHeartbeats 4000000 in
theorem walk (a0 : Option Addr) (n0 c0 : Nat) (z0 : List Int) (a1 : Int) (a2 : Int) (a3 : Int) (a4 : Int) (a5 : Int) (w : World) (l0 : z0.length = n0) (cp0 : n0 ≤ c0 ∧ c0 ≤ maxLen) (nz0 : a0 = none → c0 = 0) (rd0 : H.RdI w w.heap.size .i64 a0 z0) (wf0 : ∀ n ∈ z0, (Lit.int .i64 n).wf = true) (r0 : z0.length * 8 ≤ 140737488351232) (w1 : (Lit.int .i64 a1).wf = true) (w2 : (Lit.int .i64 a2).wf = true) (w3 : (Lit.int .i64 a3).wf = true) (w4 : (Lit.int .i64 a4).wf = true) (w5 : (Lit.int .i64 a5).wf = true) :
    Calls Try.prog 11 #[.slice a0 n0 c0, .int .i64 a1, .int .i64 a2, .int .i64 a3, .int .i64 a4, .int .i64 a5] w fun e w' => e = .returned (.bool true) ∧ Below w.heap.size w w' := by
  subst l0
  have HL := Lib.hid (fun W => Q.lives_any W)
  have HT : RowKit.Hid (∀ W, RowKit.Below w.heap.size w W → Calls Try.prog 16 #[.slice a0 z0.length c0] W fun e w' => ∃ A2 c2 T, e = .returned (.slice A2 T.length c2) ∧ Q.Good T ∧ T.length ≤ 60 ∧ Q.OwnT w' A2 T c2 ∧ RowKit.Below W.heap.size W w') :=
    Lib.hid (fun W hW => Q.rtable_any z0 a0 c0 w.heap.size W hW.size (by omega) (rd0.below hW) (fun z hz => H.i64_range (wf0 z hz)))
  have HA1 : RowKit.Hid (∃ R : Nat, R < 12 ∧ ∀ W, Calls Try.prog 17 #[.int .i64 a1, .int .i64 12] W fun e w' => e = .returned (.int .i64 R) ∧ w' = W) := Lib.hid (by obtain ⟨k, h1, h2⟩ := H.around_nat a1 (m := 12) (by omega); exact ⟨k, h2, fun W => by have h := H.around_any a1 12 (H.i64_range w1).1 (H.i64_range w1).2 (by omega) (by omega) W; rwa [show H.around a1 12 = (k : Int) from h1] at h⟩)
  have HA2 : RowKit.Hid (∃ R : Nat, R < 9 ∧ ∀ W, Calls Try.prog 17 #[.int .i64 a2, .int .i64 9] W fun e w' => e = .returned (.int .i64 R) ∧ w' = W) := Lib.hid (by obtain ⟨k, h1, h2⟩ := H.around_nat a2 (m := 9) (by omega); exact ⟨k, h2, fun W => by have h := H.around_any a2 9 (H.i64_range w2).1 (H.i64_range w2).2 (by omega) (by omega) W; rwa [show H.around a2 9 = (k : Int) from h1] at h⟩)
  have HA3 : RowKit.Hid (∃ R : Int, (0 ≤ R ∧ R < 400) ∧ ∀ W, Calls Try.prog 17 #[.int .i64 a3, .int .i64 400] W fun e w' => e = .returned (.int .i64 R) ∧ w' = W) := Lib.hid ⟨_, H.around_lt a3 (by omega), fun W => H.around_any a3 400 (H.i64_range w3).1 (H.i64_range w3).2 (by omega) (by omega) W⟩
  have HA4 : RowKit.Hid (∃ R : Int, (0 ≤ R ∧ R < 500) ∧ ∀ W, Calls Try.prog 17 #[.int .i64 a4, .int .i64 500] W fun e w' => e = .returned (.int .i64 R) ∧ w' = W) := Lib.hid ⟨_, H.around_lt a4 (by omega), fun W => H.around_any a4 500 (H.i64_range w4).1 (H.i64_range w4).2 (by omega) (by omega) W⟩
  have HAT : RowKit.Hid (∀ m : Nat, 1 ≤ m → m ≤ 60 → ∃ o : Nat, o < m ∧ ∀ W, Calls Try.prog 17 #[.int .i64 a5, .int .i64 (m : Int)] W fun e w' => e = .returned (.int .i64 (o : Int)) ∧ w' = W) := Lib.hid (fun m h1 h2 => by obtain ⟨k, h3, h4⟩ := H.around_nat a5 (m := m) h1; exact ⟨k, h4, fun W => by have h := H.around_any a5 m (H.i64_range w5).1 (H.i64_range w5).2 (by omega) (by omega) W; rwa [h3] at h⟩)
  obtain ⟨c, hc, HC⟩ := HA1.out
  obtain ⟨s, hs, HSS⟩ := HA2.out
  obtain ⟨k, hk, HK⟩ := HA3.out
  obtain ⟨n, hn, HN⟩ := HA4.out
  replace HC := Lib.hid HC
  replace HSS := Lib.hid HSS
  replace HK := Lib.hid HK
  replace HN := Lib.hid HN
  clear cp0 nz0 rd0 wf0 r0 w1 w2 w3 w4 w5 HA1 HA2 HA3 HA4
  generalize z0.length = zl at *
  have hn1 : IntKind.i64.wrap (1 + n) = 1 + n := IntWalk.i64_in _ (by omega)
  obtain ⟨i0, hi, hz0, hz1, hz2⟩ := info_parts Q.infoW
  go_enter Try.func11, Try.ntmps11
  go_upto_region 2 with (go_at_call 16; refine (HT.out _ (RowKit.Below.refl _ _)).mono ?_; rintro e w2 ⟨A2, c2, T, rfl, hgd, htl, hO, hB⟩; have HGD := Lib.hid hgd; have HO := Lib.hid hO; have HB2 := Lib.hid hB; have HTL := Lib.hid htl; clear hgd hO hB htl)
  by_cases h0 : T.length = 0
  · rw [h0]
    clear HAT hn1
    go_wp2_with (go_at_call 15; refine (HL.out _).mono ?_; rintro e w5 ⟨rfl, hB5⟩)
    go_ret
    exact ⟨rfl, HB2.out.trans (hB5.mono HB2.out.size)⟩
  · obtain ⟨o, ho, HAT2⟩ := HAT.out T.length (by omega) HTL.out
    replace HAT2 := Lib.hid HAT2
    obtain ⟨g, hA, hlc, hcm, hg, hR6⟩ : ∃ g, A2 = some ⟨g, 0, none⟩ ∧ T.length ≤ c2 ∧ c2 ≤ maxLen ∧ g < w2.heap.size ∧ Q.R6 w2 g T := by
      rcases HO.out with ⟨_, h, _⟩ | h
      · rw [h] at h0; exact absurd rfl h0
      · exact h
    obtain ⟨ad, had⟩ : ∃ ad : Addr, ad = ⟨g, 0, none⟩ := ⟨_, rfl⟩
    rw [← had] at hA
    subst hA
    have HN1 : RowKit.Hid (∀ W, RowKit.Below w2.heap.size w2 W → ∀ j u, (Q.flat6 (T.take o))[j]? = some u → W.cell? (ad.add j) = some u) := Lib.hid (fun W hW j u hu => by rw [had, H.ad_add]; exact ((hR6.take o).below hW).c j u hu)
    have HN2 : RowKit.Hid (∀ W, RowKit.Below w2.heap.size w2 W → ∀ j u, (Q.flat6 (T.drop (o + 1)))[j]? = some u → W.cell? ((ad.add ((o + 1) * 6)).add j) = some u) := Lib.hid (fun W hW j u hu => by
      rw [had, H.ad_add]
      have h := Q.below_cell hW (hR6.drop (p := o + 1) (by omega) j u hu)
      rw [show ((⟨g, (o + 1) * 6, none⟩ : Addr).add j) = ⟨g, (o + 1) * 6 + j, none⟩ by unfold Addr.add; split <;> simp_all]
      exact h)
    have HLG := Lib.hid (HGD.out.sub (Q.less_sub T o))
    have HLL := Lib.hid (Q.less_len ho)
    have HLF := Lib.hid (Q.less_flat T o)
    have HSUB := Lib.hid (Q.hl_sub (fun x hx => (Q.less_sub T o).subset hx))
    have HK1 : RowKit.Hid ((T.take o).length = o) := Lib.hid (by rw [List.length_take]; omega)
    have HD1 : RowKit.Hid ((T.drop (o + 1)).length = T.length - (o + 1)) := Lib.hid List.length_drop
    have HCK : RowKit.Hid (∀ (W : World) A cc, Q.OwnT W A (Q.less T o) cc → Calls Try.prog 13 #[.slice A (Q.less T o).length cc] W fun e w' => e = .returned (.int .i64 0) ∧ RowKit.Below W.heap.size W w') := Lib.hid (fun W A cc h => by have h2 := Q.pcheck_all _ A cc W.heap.size W (Nat.le_refl _) h.cap h.rds; rwa [Q.chk_good HLG.out (by rw [HLL.out]; have := HTL.out; omega)] at h2)
    have HAR1 : RowKit.Hid (∀ W, RowKit.Below w2.heap.size w2 W → Calls Try.prog 28 #[.slice (some ad) T.length c2, .int .i64 c, .int .i64 s, .int .i64 k, .int .i64 (1 + n)] W fun e w' => (∃ E, Q.Erl T c k (1 + n) E ∧ ((Q.gt E (12 + s) = 1000001 ∧ e = .returned (.tuple #[.int .i64 0, .slice none 0 0, .bool false])) ∨ (Q.Nd E (12 + s) ∧ ∃ A1 c1 l, Q.Chn (fun m => Q.befL E m (1 + n) (Q.hl T)) c (12 + s) l ∧ e = .returned (.tuple #[.int .i64 (Q.gt E (12 + s)), .slice A1 l.length c1, .bool true]) ∧ H.RdI w' w'.heap.size .i64 A1 l))) ∧ RowKit.Below W.heap.size W w') :=
      Lib.hid (fun W hW => Q.parr_x T (some ad) c2 w2.heap.size c s k (1 + n) W hW.size (by have := HTL.out; omega) hc hs (by omega) (by omega) (HO.out.rds.below hW))
    have HAR2 : RowKit.Hid (∀ (W : World) A cc, Q.OwnT W A (Q.less T o) cc → Calls Try.prog 28 #[.slice A (Q.less T o).length cc, .int .i64 c, .int .i64 s, .int .i64 k, .int .i64 (1 + n)] W fun e w' => (∃ E, Q.Erl (Q.less T o) c k (1 + n) E ∧ ((Q.gt E (12 + s) = 1000001 ∧ e = .returned (.tuple #[.int .i64 0, .slice none 0 0, .bool false])) ∨ (Q.Nd E (12 + s) ∧ ∃ A1 c1 l, Q.Chn (fun m => Q.befL E m (1 + n) (Q.hl (Q.less T o))) c (12 + s) l ∧ e = .returned (.tuple #[.int .i64 (Q.gt E (12 + s)), .slice A1 l.length c1, .bool true]) ∧ H.RdI w' w'.heap.size .i64 A1 l))) ∧ RowKit.Below W.heap.size W w') :=
      Lib.hid (fun W A cc h => Q.parr_x (Q.less T o) A cc W.heap.size c s k (1 + n) W (Nat.le_refl _) (by rw [HLL.out]; have := HTL.out; omega) hc hs (by omega) (by omega) h.rds)
    have HLT : RowKit.Hid (∀ E E', Q.Erl T c k (1 + n) E → Q.Erl (Q.less T o) c k (1 + n) E' → Q.gt E (12 + (s : Int)) ≤ Q.gt E' (12 + (s : Int))) :=
      Lib.hid (fun E E' h1 h2 => by have h := Q.erl_later (L := Q.less T o) (by omega) (by omega) (by omega) (by omega) HSUB.out h1 h2 (12 + s) (by omega); simpa using h)
    have HO1' := Lib.hid (fun (W : World) b v (h : W.ownsRow b 31 6 v (T.length - 1) (Q.flat6 (Q.less T o))) => Q.own_tab h HLL.out.symm)
    have htl60 := HTL.out
    obtain ⟨p, hp⟩ : ∃ p : Nat, p = o + 1 := ⟨_, rfl⟩
    have HPO := Lib.hid hp
    have hw : IntKind.i64.wrap ((o : Int) + 1) = (p : Int) := by rw [hp]; exact (IntWalk.i64_in _ (by omega)).trans (by simp)
    rw [← hp] at HN2 HD1 HLF
    generalize hlq : T.length = tl at *
    have HLQ := Lib.hid hlq
    have pl : p ≤ tl := by omega
    have ol : o ≤ tl := by omega
    have pc : p ≤ c2 := by omega
    have oc : o ≤ c2 := by omega
    have j1 : (p : Int) ≤ (tl : Int) := by omega
    have j2 : (o : Int) ≤ (tl : Int) := by omega
    have j3 : (p : Int) ≤ (c2 : Int) := by omega
    have j4 : (o : Int) ≤ (c2 : Int) := by omega
    have j5 : (tl : Int) ≤ (c2 : Int) := by omega
    have j6 : ¬ (tl : Int) = 0 := by omega
    have j7 : ¬ tl = 0 := by omega
    clear hlq hp HAT hR6 hg had ho HO HGD HLG HLL HSUB hcm
    go_upto_region 10 with (first
      | (go_at_call 17; with_reducible refine (HC.out _).mono ?_; rintro e w3 ⟨rfl, hw⟩; rw [hw]; clear hw w3)
      | (go_at_call 17; with_reducible refine (HSS.out _).mono ?_; rintro e w3 ⟨rfl, hw⟩; rw [hw]; clear hw w3)
      | (go_at_call 17; with_reducible refine (HK.out _).mono ?_; rintro e w3 ⟨rfl, hw⟩; rw [hw]; clear hw w3)
      | (go_at_call 17; with_reducible refine (HN.out _).mono ?_; rintro e w3 ⟨rfl, hw⟩; rw [hw]; clear hw w3)
      | (go_at_call 17; with_reducible refine (HAT2.out _).mono ?_; rintro e w3 ⟨rfl, hw⟩; rw [hw]; clear hw w3))
    clear HC HSS HK HN HAT2
    rcases Nat.lt_or_ge p c2 with hq | hq
    · have q1 : ¬ p = c2 := by omega
      have q2 : ¬ c2 = p := by omega
      have q3 : (p : Int) < (c2 : Int) := by omega
      have q4 : ¬ c2 - p = 0 := by omega
      have q5 : ¬ c2 ≤ p := by omega
      refine wp_region_held_drew (S := fun _ => True) (by kernel_rfl) trivial (fun hHeld => ?_)
      refine wpAnyH_take (i := 0) (oi := { dst := some 45, op := _, type := _, pos := _, after := _, guard := _ }) (v := ?_) rfl (by kernel_rfl) (by kernel_rfl) (by kernel_rfl) (fun _ _ _ h => h) (Or.inl ⟨by rfl, ?_⟩) (by assumption) ?_
      rotate_left
      · (intro w hSw; (try dsimp only at hSw); go_simp)
        first | done | with_reducible rfl
      try simp only [Act.put, List.setIfInBounds_toArray, List.set_cons_zero, List.set_cons_succ]
      refine wpAnyH_take (i := 1) (oi := { dst := some 46, op := _, type := _, pos := _, after := _, guard := _ }) (v := ?_) rfl (by kernel_rfl) (by kernel_rfl) (by kernel_rfl) (fun _ _ _ h => h) (Or.inl ⟨by rfl, ?_⟩) (by assumption) ?_
      rotate_left
      · (intro w hSw; (try dsimp only at hSw); go_simp)
        first | done | with_reducible rfl
      try simp only [Act.put, List.setIfInBounds_toArray, List.set_cons_zero, List.set_cons_succ]
      refine wpAnyH_take (i := 2) (oi := { dst := some 47, op := _, type := _, pos := _, after := _, guard := _ }) (v := ?_) rfl (by kernel_rfl) (by kernel_rfl) (by kernel_rfl) (fun _ _ _ h => h) (Or.inl ⟨by rfl, ?_⟩) (by assumption) ?_
      rotate_left
      · (intro w hSw; (try dsimp only at hSw); go_simp)
        first | done | with_reducible rfl
      try simp only [Act.put, List.setIfInBounds_toArray, List.set_cons_zero, List.set_cons_succ]
      refine wpAnyH_take (i := 3) (oi := { dst := some 48, op := _, type := _, pos := _, after := _, guard := _ }) (v := ?_) rfl (by kernel_rfl) (by kernel_rfl) (by kernel_rfl) (fun _ _ _ h => h) (Or.inl ⟨by rfl, ?_⟩) (by assumption) ?_
      rotate_left
      · (intro w hSw; (try dsimp only at hSw); go_simp)
        first | done | with_reducible rfl
      try simp only [Act.put, List.setIfInBounds_toArray, List.set_cons_zero, List.set_cons_succ]
      refine wpAnyH_take (i := 5) (oi := { dst := some 50, op := _, type := _, pos := _, after := _, guard := _ }) (v := ?_) rfl (by kernel_rfl) (by kernel_rfl) (by kernel_rfl) (fun _ _ _ h => h) (Or.inl ⟨by rfl, ?_⟩) (by assumption) ?_
      rotate_left
      · (intro w hSw; (try dsimp only at hSw); go_simp)
        first | done | with_reducible rfl
      try simp only [Act.put, List.setIfInBounds_toArray, List.set_cons_zero, List.set_cons_succ]
      refine wpAnyH_take (i := 6) (oi := { dst := some 51, op := _, type := _, pos := _, after := _, guard := _ }) (v := ?_) rfl (by kernel_rfl) (by kernel_rfl) (by kernel_rfl) (fun _ _ _ h => h) (Or.inl ⟨by rfl, ?_⟩) (by assumption) ?_
      rotate_left
      · (intro w hSw; (try dsimp only at hSw); go_simp)
        first | done | with_reducible rfl
      try simp only [Act.put, List.setIfInBounds_toArray, List.set_cons_zero, List.set_cons_succ]
      refine wpAnyH_take (i := 7) (oi := { dst := some 52, op := _, type := _, pos := _, after := _, guard := _ }) (v := ?_) rfl (by kernel_rfl) (by kernel_rfl) (by kernel_rfl) (fun _ _ _ h => h) (Or.inl ⟨by rfl, ?_⟩) (by assumption) ?_
      rotate_left
      · (intro w hSw; (try dsimp only at hSw); go_simp)
        first | done | with_reducible rfl
      try simp only [Act.put, List.setIfInBounds_toArray, List.set_cons_zero, List.set_cons_succ]
      refine wpAnyH_take (i := 8) (oi := { dst := some 53, op := _, type := _, pos := _, after := _, guard := _ }) (v := ?_) rfl (by kernel_rfl) (by kernel_rfl) (by kernel_rfl) (fun _ _ _ h => h) (Or.inl ⟨by rfl, ?_⟩) (by assumption) ?_
      rotate_left
      · (intro w hSw; (try dsimp only at hSw); go_simp)
        first | done | with_reducible rfl
      try simp only [Act.put, List.setIfInBounds_toArray, List.set_cons_zero, List.set_cons_succ]
      refine wpAnyH_ready (rs := [4]) (by kernel_rfl) (by simp) ?_
      refine AllReadyH.cons (o := { dst := some 49, op := _, type := _, pos := _, after := _, guard := _ }) rfl (fun K hK => ?_) AllReadyH.nil
      refine wp_append_own _ (.tmp 45) (.tmp 48) 22 rfl w2.heap.size 31 i0 (.agg #[.int .i64 0, .int .i64 0, .int .i64 0, .int .i64 0, .int .i64 0, .int .i64 0]) 6 48 Try.underlying22 hi hz0 hz1 hz2 rfl (by decide) (.slice none 0 0) (0) ([]) rfl (World.ownsRow_nil _ _ _ _) ad o c2 (Q.flat6 (T.take o)) rfl (by rw [Q.flat6_len, HK1.out]) (HN1.out _ (Q.below_drew _)) (Q.flat6_one _) (by unfold maxLen; omega) (by omega) (Nat.le_refl _) ?_
      intro v1 w3 ho1 hg1 _
      have HW1 : RowKit.Hid (RowKit.Below w2.heap.size w2 w3) := Lib.hid ((Q.below_drew w2).trans (H.below_grown2 (w1 := w3) (Nat.le_refl _) (World.ownsRow_nil _ w2.heap.size 31 6) hg1))
      have HO1 := Lib.hid ho1
      clear ho1 hg1
      refine hK.out _ _ trivial (fun hH2 => ?_)
      clear hK K hHeld
      rename _ => hHeld
      try simp only [Act.put, List.setIfInBounds_toArray, List.set_cons_zero, List.set_cons_succ]
      refine wpAnyH_ready (rs := [9]) (by kernel_rfl) (by simp) ?_
      refine AllReadyH.cons (o := { dst := some 54, op := _, type := _, pos := _, after := _, guard := _ }) rfl (fun K hK => ?_) AllReadyH.nil
      refine wp_append_own _ (.tmp 49) (.tmp 53) 22 rfl w2.heap.size 31 i0 (.agg #[.int .i64 0, .int .i64 0, .int .i64 0, .int .i64 0, .int .i64 0, .int .i64 0]) 6 48 Try.underlying22 hi hz0 hz1 hz2 rfl (by decide) v1 (0 + o) ([] ++ Q.flat6 (T.take o)) rfl HO1.out (ad.add (p * 6)) (tl - p) (c2 - p) (Q.flat6 (T.drop p)) rfl (by rw [Q.flat6_len, HD1.out]) (HN2.out _ HW1.out) (Q.flat6_one _) (by unfold maxLen; omega) (by omega) (HW1.out.size) ?_
      intro v2 w4 ho2 hg2 _
      have HW2 : RowKit.Hid (RowKit.Below w2.heap.size w2 w4) := Lib.hid (HW1.out.trans (H.below_grown2 HW1.out.size HO1.out hg2))
      have HO2 := Lib.hid ho2
      clear ho2 hg2
      refine hK.out _ _ trivial (fun hH2 => ?_)
      clear hK K hHeld
      rename _ => hHeld
      try simp only [Act.put, List.setIfInBounds_toArray, List.set_cons_zero, List.set_cons_succ]
      refine wpAnyH_take (i := 10) (oi := { dst := some 19, op := _, type := _, pos := _, after := _, guard := _ }) (v := ?_) rfl (by kernel_rfl) (by kernel_rfl) (by kernel_rfl) (fun _ _ _ h => h) (Or.inl ⟨by rfl, ?_⟩) (by assumption) ?_
      rotate_left
      · (intro w hSw; (try dsimp only at hSw); go_simp)
        first | done | with_reducible rfl
      try simp only [Act.put, List.setIfInBounds_toArray, List.set_cons_zero, List.set_cons_succ]
      refine wpAnyH_done (by kernel_rfl) ?_ _
      have HROW : RowKit.Hid (w4.ownsRow w2.heap.size 31 6 v2 (tl - 1) (Q.flat6 (Q.less T o))) := Lib.hid (by have h := HO2.out; rw [List.nil_append, HLF.out, show 0 + o + (tl - p) = tl - 1 by have := HPO.out; omega] at h; exact h)
      obtain ⟨A4, c4, rfl, hO4⟩ := HO1'.out w4 _ v2 HROW.out
      have HO4 := Lib.hid hO4
      clear hO4 HROW HO1 HO2 HN1 HN2 HK1 HD1 HO1'
      generalize (Q.less T o).length = ll at *
      go_upto_region 12 with (go_at_call 28; with_reducible refine (HAR1.out _ HW2.out).mono ?_; rintro e w5 ⟨⟨E, hE, hcase⟩, hB5⟩; have P5 := Q.bt HW2.out hB5; have HO5 := Lib.hid (HO4.out.below hB5); have HLE := Lib.hid (fun E' h' => HLT.out E E' hE h'); clear hE; generalize Q.gt E (12 + (s : Int)) = gg at *; rcases hcase with ⟨h1, rfl⟩ | ⟨hnd, A1, c1, l, _, rfl, _⟩)
      · go_wp2_with (first
          | (go_at_call 28; with_reducible refine (HAR2.out _ _ _ HO5.out).mono ?_; rintro e w6 ⟨⟨E2, hE2, hcase2⟩, hB6⟩; have P6 := Q.bt P5 hB6; have HO6 := Lib.hid (HO5.out.below hB6); have hle := HLE.out _ hE2; rcases hcase2 with ⟨h2, rfl⟩ | ⟨hnd2, _, _, _, _, _⟩; rotate_left; (exfalso; have h9 := hnd2.tk; omega))
          | (go_at_call 13; with_reducible refine (HCK.out _ _ _ HO6.out).mono ?_; rintro e w7 ⟨rfl, hB7⟩; have P7 := Q.bt P6 hB7)
          | (go_at_call 15; refine (HL.out _).mono ?_; rintro e w8 ⟨rfl, hB8⟩; have P8 := Q.bt P7 hB8; clear hB8))
        go_ret
        exact ⟨rfl, HB2.out.trans (P8.mono HB2.out.size)⟩
      · go_wp2_with (first
          | (go_at_call 28; with_reducible refine (HAR2.out _ _ _ HO5.out).mono ?_; rintro e w6 ⟨⟨E2, hE2, hcase2⟩, hB6⟩; have P6 := Q.bt P5 hB6; have HO6 := Lib.hid (HO5.out.below hB6); have hle := HLE.out _ hE2; clear HLE; generalize Q.gt E2 (12 + (s : Int)) = g2 at *; rcases hcase2 with ⟨h2, rfl⟩ | ⟨_, _, _, _, _, rfl, _⟩)
          | (go_at_call 13; with_reducible refine (HCK.out _ _ _ HO6.out).mono ?_; rintro e w7 ⟨rfl, hB7⟩; have P7 := Q.bt P6 hB7)
          | (go_at_call 15; refine (HL.out _).mono ?_; rintro e w8 ⟨rfl, hB8⟩; have P8 := Q.bt P7 hB8; clear hB8))
        all_goals go_ret
        all_goals exact ⟨rfl, HB2.out.trans (P8.mono HB2.out.size)⟩
    · obtain rfl : p = tl := by omega
      obtain rfl : p = c2 := by omega
      have HD0 : RowKit.Hid (T.drop p = []) := Lib.hid (List.eq_nil_of_length_eq_zero (by rw [HD1.out]; omega))
      refine wp_region_held_drew (S := fun _ => True) (by kernel_rfl) trivial (fun hHeld => ?_)
      refine wpAnyH_take (i := 0) (oi := { dst := some 45, op := _, type := _, pos := _, after := _, guard := _ }) (v := ?_) rfl (by kernel_rfl) (by kernel_rfl) (by kernel_rfl) (fun _ _ _ h => h) (Or.inl ⟨by rfl, ?_⟩) (by assumption) ?_
      rotate_left
      · (intro w hSw; (try dsimp only at hSw); go_simp)
        first | done | with_reducible rfl
      try simp only [Act.put, List.setIfInBounds_toArray, List.set_cons_zero, List.set_cons_succ]
      refine wpAnyH_take (i := 1) (oi := { dst := some 46, op := _, type := _, pos := _, after := _, guard := _ }) (v := ?_) rfl (by kernel_rfl) (by kernel_rfl) (by kernel_rfl) (fun _ _ _ h => h) (Or.inl ⟨by rfl, ?_⟩) (by assumption) ?_
      rotate_left
      · (intro w hSw; (try dsimp only at hSw); go_simp)
        first | done | with_reducible rfl
      try simp only [Act.put, List.setIfInBounds_toArray, List.set_cons_zero, List.set_cons_succ]
      refine wpAnyH_take (i := 2) (oi := { dst := some 47, op := _, type := _, pos := _, after := _, guard := _ }) (v := ?_) rfl (by kernel_rfl) (by kernel_rfl) (by kernel_rfl) (fun _ _ _ h => h) (Or.inl ⟨by rfl, ?_⟩) (by assumption) ?_
      rotate_left
      · (intro w hSw; (try dsimp only at hSw); go_simp)
        first | done | with_reducible rfl
      try simp only [Act.put, List.setIfInBounds_toArray, List.set_cons_zero, List.set_cons_succ]
      refine wpAnyH_take (i := 3) (oi := { dst := some 48, op := _, type := _, pos := _, after := _, guard := _ }) (v := ?_) rfl (by kernel_rfl) (by kernel_rfl) (by kernel_rfl) (fun _ _ _ h => h) (Or.inl ⟨by rfl, ?_⟩) (by assumption) ?_
      rotate_left
      · (intro w hSw; (try dsimp only at hSw); go_simp)
        first | done | with_reducible rfl
      try simp only [Act.put, List.setIfInBounds_toArray, List.set_cons_zero, List.set_cons_succ]
      refine wpAnyH_take (i := 5) (oi := { dst := some 50, op := _, type := _, pos := _, after := _, guard := _ }) (v := ?_) rfl (by kernel_rfl) (by kernel_rfl) (by kernel_rfl) (fun _ _ _ h => h) (Or.inl ⟨by rfl, ?_⟩) (by assumption) ?_
      rotate_left
      · (intro w hSw; (try dsimp only at hSw); go_simp)
        first | done | with_reducible rfl
      try simp only [Act.put, List.setIfInBounds_toArray, List.set_cons_zero, List.set_cons_succ]
      refine wpAnyH_take (i := 6) (oi := { dst := some 51, op := _, type := _, pos := _, after := _, guard := _ }) (v := ?_) rfl (by kernel_rfl) (by kernel_rfl) (by kernel_rfl) (fun _ _ _ h => h) (Or.inl ⟨by rfl, ?_⟩) (by assumption) ?_
      rotate_left
      · (intro w hSw; (try dsimp only at hSw); go_simp)
        first | done | with_reducible rfl
      try simp only [Act.put, List.setIfInBounds_toArray, List.set_cons_zero, List.set_cons_succ]
      refine wpAnyH_take (i := 7) (oi := { dst := some 52, op := _, type := _, pos := _, after := _, guard := _ }) (v := ?_) rfl (by kernel_rfl) (by kernel_rfl) (by kernel_rfl) (fun _ _ _ h => h) (Or.inl ⟨by rfl, ?_⟩) (by assumption) ?_
      rotate_left
      · (intro w hSw; (try dsimp only at hSw); go_simp)
        first | done | with_reducible rfl
      try simp only [Act.put, List.setIfInBounds_toArray, List.set_cons_zero, List.set_cons_succ]
      refine wpAnyH_take (i := 8) (oi := { dst := some 53, op := _, type := _, pos := _, after := _, guard := _ }) (v := ?_) rfl (by kernel_rfl) (by kernel_rfl) (by kernel_rfl) (fun _ _ _ h => h) (Or.inl ⟨by rfl, ?_⟩) (by assumption) ?_
      rotate_left
      · (intro w hSw; (try dsimp only at hSw); go_simp)
        first | done | with_reducible rfl
      try simp only [Act.put, List.setIfInBounds_toArray, List.set_cons_zero, List.set_cons_succ]
      refine wpAnyH_ready (rs := [4]) (by kernel_rfl) (by simp) ?_
      refine AllReadyH.cons (o := { dst := some 49, op := _, type := _, pos := _, after := _, guard := _ }) rfl (fun K hK => ?_) AllReadyH.nil
      refine wp_append_own _ (.tmp 45) (.tmp 48) 22 rfl w2.heap.size 31 i0 (.agg #[.int .i64 0, .int .i64 0, .int .i64 0, .int .i64 0, .int .i64 0, .int .i64 0]) 6 48 Try.underlying22 hi hz0 hz1 hz2 rfl (by decide) (.slice none 0 0) (0) ([]) rfl (World.ownsRow_nil _ _ _ _) ad o p (Q.flat6 (T.take o)) rfl (by rw [Q.flat6_len, HK1.out]) (HN1.out _ (Q.below_drew _)) (Q.flat6_one _) (by unfold maxLen; omega) (by omega) (Nat.le_refl _) ?_
      intro v1 w3 ho1 hg1 _
      have HW1 : RowKit.Hid (RowKit.Below w2.heap.size w2 w3) := Lib.hid ((Q.below_drew w2).trans (H.below_grown2 (w1 := w3) (Nat.le_refl _) (World.ownsRow_nil _ w2.heap.size 31 6) hg1))
      have HO1 := Lib.hid ho1
      clear ho1 hg1
      refine hK.out _ _ trivial (fun hH2 => ?_)
      clear hK K hHeld
      rename _ => hHeld
      try simp only [Act.put, List.setIfInBounds_toArray, List.set_cons_zero, List.set_cons_succ]
      refine wpAnyH_ready (rs := [9]) (by kernel_rfl) (by simp) ?_
      refine AllReadyH.cons (o := { dst := some 54, op := _, type := _, pos := _, after := _, guard := _ }) rfl (fun K hK => ?_) AllReadyH.nil
      refine wp_append_own _ (.tmp 49) (.tmp 53) 22 rfl w2.heap.size 31 i0 (.agg #[.int .i64 0, .int .i64 0, .int .i64 0, .int .i64 0, .int .i64 0, .int .i64 0]) 6 48 Try.underlying22 hi hz0 hz1 hz2 rfl (by decide) v1 (0 + o) ([] ++ Q.flat6 (T.take o)) rfl HO1.out ad 0 0 [] rfl (rfl) (fun j u hu => by simp at hu) (fun u hu => by simp at hu) (by unfold maxLen; omega) (by omega) (HW1.out.size) ?_
      intro v2 w4 ho2 hg2 _
      have HW2 : RowKit.Hid (RowKit.Below w2.heap.size w2 w4) := Lib.hid (HW1.out.trans (H.below_grown2 HW1.out.size HO1.out hg2))
      have HO2 := Lib.hid ho2
      clear ho2 hg2
      refine hK.out _ _ trivial (fun hH2 => ?_)
      clear hK K hHeld
      rename _ => hHeld
      try simp only [Act.put, List.setIfInBounds_toArray, List.set_cons_zero, List.set_cons_succ]
      refine wpAnyH_take (i := 10) (oi := { dst := some 19, op := _, type := _, pos := _, after := _, guard := _ }) (v := ?_) rfl (by kernel_rfl) (by kernel_rfl) (by kernel_rfl) (fun _ _ _ h => h) (Or.inl ⟨by rfl, ?_⟩) (by assumption) ?_
      rotate_left
      · (intro w hSw; (try dsimp only at hSw); go_simp)
        first | done | with_reducible rfl
      try simp only [Act.put, List.setIfInBounds_toArray, List.set_cons_zero, List.set_cons_succ]
      refine wpAnyH_done (by kernel_rfl) ?_ _
      have HROW : RowKit.Hid (w4.ownsRow w2.heap.size 31 6 v2 (p - 1) (Q.flat6 (Q.less T o))) := Lib.hid (by have h := HO2.out; have h2 := HLF.out; rw [HD0.out] at h2; rw [← h2]; rw [List.nil_append, show 0 + o + 0 = p - 1 by have := HPO.out; omega] at h; exact h)
      obtain ⟨A4, c4, rfl, hO4⟩ := HO1'.out w4 _ v2 HROW.out
      have HO4 := Lib.hid hO4
      clear hO4 HROW HO1 HO2 HN1 HN2 HK1 HD1 HO1'
      generalize (Q.less T o).length = ll at *
      go_upto_region 12 with (go_at_call 28; with_reducible refine (HAR1.out _ HW2.out).mono ?_; rintro e w5 ⟨⟨E, hE, hcase⟩, hB5⟩; have P5 := Q.bt HW2.out hB5; have HO5 := Lib.hid (HO4.out.below hB5); have HLE := Lib.hid (fun E' h' => HLT.out E E' hE h'); clear hE; generalize Q.gt E (12 + (s : Int)) = gg at *; rcases hcase with ⟨h1, rfl⟩ | ⟨hnd, A1, c1, l, _, rfl, _⟩)
      · go_wp2_with (first
          | (go_at_call 28; with_reducible refine (HAR2.out _ _ _ HO5.out).mono ?_; rintro e w6 ⟨⟨E2, hE2, hcase2⟩, hB6⟩; have P6 := Q.bt P5 hB6; have HO6 := Lib.hid (HO5.out.below hB6); have hle := HLE.out _ hE2; rcases hcase2 with ⟨h2, rfl⟩ | ⟨hnd2, _, _, _, _, _⟩; rotate_left; (exfalso; have h9 := hnd2.tk; omega))
          | (go_at_call 13; with_reducible refine (HCK.out _ _ _ HO6.out).mono ?_; rintro e w7 ⟨rfl, hB7⟩; have P7 := Q.bt P6 hB7)
          | (go_at_call 15; refine (HL.out _).mono ?_; rintro e w8 ⟨rfl, hB8⟩; have P8 := Q.bt P7 hB8; clear hB8))
        go_ret
        exact ⟨rfl, HB2.out.trans (P8.mono HB2.out.size)⟩
      · go_wp2_with (first
          | (go_at_call 28; with_reducible refine (HAR2.out _ _ _ HO5.out).mono ?_; rintro e w6 ⟨⟨E2, hE2, hcase2⟩, hB6⟩; have P6 := Q.bt P5 hB6; have HO6 := Lib.hid (HO5.out.below hB6); have hle := HLE.out _ hE2; clear HLE; generalize Q.gt E2 (12 + (s : Int)) = g2 at *; rcases hcase2 with ⟨h2, rfl⟩ | ⟨_, _, _, _, _, rfl, _⟩)
          | (go_at_call 13; with_reducible refine (HCK.out _ _ _ HO6.out).mono ?_; rintro e w7 ⟨rfl, hB7⟩; have P7 := Q.bt P6 hB7)
          | (go_at_call 15; refine (HL.out _).mono ?_; rintro e w8 ⟨rfl, hB8⟩; have P8 := Q.bt P7 hB8; clear hB8))
        all_goals go_ret
        all_goals exact ⟨rfl, HB2.out.trans (P8.mono HB2.out.size)⟩

set_option maxRecDepth 100000 in
theorem lifted (os : Os) (started : os.Started) (H0 : Type) (enc : TypeId × Value → H0) :
    ReturnsInHanded {} Try.checked os 11 .any (Rows.orbitFewerSpec.pre6 enc Try.prog Try.f11 Rows.orbitFewerRow.domain false) (Rows.orbitFewerSpec.post enc Try.prog Try.f11 false true false false) := by
  refine returnsInHanded_of_change_sized (C := Try.checked) Go.Proofs.Ytojflmejkigdiaa.O.own started (by kernel_rfl) Try.func11
    (ChangeSpec.witness6 (enc := enc) (C := Try.checked) false ⟨#[], #[.slice none 0 0, .int .i64 0, .int .i64 0, .int .i64 0, .int .i64 0, .int .i64 0], []⟩ 8 (by kernel_rfl) (by kernel_rfl) (by kernel_rfl) (by kernel_rfl)) ?_
  intro W base args ds gs before hval0 hW hcnd hsz0 _
  have hsz : (DataW.weightsEach Try.prog (Try.f11.params.toList ++ Rows.orbitFewerSpec.plain.varTypes Try.prog) (ds ++ gs)).all (· ≤ reachBytes) = true := hsz0
  clear hsz0
  have hval : ∀ (j : Nat) t v, Try.f11.params[j]? = some t → args[j]? = some v → Value.okWide Try.prog W .any base t v := hval0
  have hW' := hW
  obtain ⟨p, q, hA0, hV, rfl, hfz, hnd⟩ := hW
  have hA : DataW.TrodAll enc Try.prog W 0 (fun _ => true) true Try.f11.params.toList args.toList ds p := hA0
  rw [Try.params11] at hA hval hsz
  obtain ⟨v0, vs0, d0, ds0, p0, q0, hargs, rfl, rfl, h0, r0⟩ := trodAll_cons hA
  obtain ⟨v1, vs1, d1, ds1, p1, q1, rfl, rfl, rfl, h1, r1⟩ := trodAll_cons r0
  obtain ⟨v2, vs2, d2, ds2, p2, q2, rfl, rfl, rfl, h2, r2⟩ := trodAll_cons r1
  obtain ⟨v3, vs3, d3, ds3, p3, q3, rfl, rfl, rfl, h3, r3⟩ := trodAll_cons r2
  obtain ⟨v4, vs4, d4, ds4, p4, q4, rfl, rfl, rfl, h4, r4⟩ := trodAll_cons r3
  obtain ⟨v5, vs5, d5, ds5, p5, q5, rfl, rfl, rfl, h5, r5⟩ := trodAll_cons r4
  obtain ⟨rfl, rfl, rfl⟩ := trodAll_nil r5
  obtain rfl : args = #[v0, v1, v2, v3, v4, v5] := by cases args; simp_all
  obtain ⟨rfl, rfl⟩ := trodVars_none hV
  obtain ⟨a0, n0, c0, rfl⟩ := okWide_slice Try.underlying27 (hval 0 27 v0 rfl rfl)
  have k0 := h0
  have lt0 : ∀ x ∈ p0, x.block < W.heap.size := by obtain ⟨m, hm⟩ := k0; exact DataW.trod_lt m _ _ _ hm
  obtain ⟨z0, l0, cp0, cq0, nz0, rd0, wf0, bj0⟩ := Go.Proofs.Ytojflmejkigdiaa.O.open_isT Try.underlying27 Try.underlying3 (by kernel_rfl) h0
  have el0 := Go.Proofs.Ytojflmejkigdiaa.O.open_el Try.underlying27 Try.underlying3 (by kernel_rfl) k0
  obtain ⟨a1, rfl, rfl, rfl, w1⟩ := open_int Try.underlying3 (hval 1 3 v1 rfl rfl) h1
  obtain ⟨a2, rfl, rfl, rfl, w2⟩ := open_int Try.underlying3 (hval 2 3 v2 rfl rfl) h2
  obtain ⟨a3, rfl, rfl, rfl, w3⟩ := open_int Try.underlying3 (hval 3 3 v3 rfl rfl) h3
  obtain ⟨a4, rfl, rfl, rfl, w4⟩ := open_int Try.underlying3 (hval 4 3 v4 rfl rfl) h4
  obtain ⟨a5, rfl, rfl, rfl, w5⟩ := open_int Try.underlying3 (hval 5 3 v5 rfl rfl) h5
  clear hA0 hval0
  have r0 : z0.length * 8 ≤ 140737488351232 := by
    rcases el0 with h | ⟨es, sp, h, hle⟩
    · omega
    · have hr := sized_slice hsz (j := 0) (t := 27) (e := 3) (elems := es) (spare := sp) rfl (by simp [h]) Try.underlying27
      rw [show Try.prog.bytesOf 3 = 8 from by kernel_rfl] at hr
      simp only [reachBytes] at hr
      omega
  refine (walk a0 n0 c0 z0 a1 a2 a3 a4 a5 W l0 ⟨cp0, cq0⟩ nz0 rd0 wf0 r0 w1 w2 w3 w4 w5).mono fun e W' ⟨he, bel⟩ => ?_
  subst he
  exact ⟨_, rfl, _, _, _, [], _, [], hW', trodAll_mk1 (shut_bool Try.underlying4 _), (trodAll_cons_mk (Below.trod Go.Proofs.Ytojflmejkigdiaa.O.laidOut (by kernel_rfl) (of_decide_eq_true (by kernel_rfl)) k0 bel lt0) (trodAll_cons_mk (shut_int Try.underlying3 w1) (trodAll_cons_mk (shut_int Try.underlying3 w2) (trodAll_cons_mk (shut_int Try.underlying3 w3) (trodAll_cons_mk (shut_int Try.underlying3 w4) (trodAll_cons_mk (shut_int Try.underlying3 w5) trodAll_mk0)))))), rfl, bel.frame _, fun h => by cases h⟩

/-- ████ THE STATEMENT ████ -/
theorem proved : Rows.OrbitFewerSaid :=
  OpenClaim.holds_of_wide 11 Try.f11 rfl rfl rfl rfl rfl rfl rfl ⟨rfl, rfl, rfl, rfl, rfl⟩ rfl rfl rfl rfl rfl (by kernel_rfl) Try.func11 (by kernel_rfl)
    (of_decide_eq_true (by kernel_rfl)) (by unfold Func.isWrapper; first | (rw [if_pos (by decide +kernel)]; kernel_rfl) | (rw [if_neg (by decide +kernel)]; exact ⟨rfl, rfl⟩))
    (fun os started H0 enc _ => lifted os started H0 enc)
end Go.Proofs.Ytojflmejkigdiaa.orbitFewer
