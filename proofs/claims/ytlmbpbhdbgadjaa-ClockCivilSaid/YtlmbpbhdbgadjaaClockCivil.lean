/-
  For all tables that are made from numbers, all ticks and all civil times, ClockCivil returns true: Civil and Ticks return the specified times; Ticks returns those ticks whose Civil is the civil time, in increasing order, the tick among them; and the chapter's examples hold.
-/
import Derived.Test.YtlmbpbhdbgadjaaKChk
import Derived.Test.YtlmbpbhdbgadjaaKMath2
import Derived.Deep.DeepCutAuto
import Derived.Deep.RegionHeld3
import Derived.Deep.LoopGhost
import Derived.Deep.QuietTactic
namespace Go.Proofs.Ytlmbpbhdbgadjaa.clockCivil
open Go.ChangeShapes Go.WideShapes Go.ChangeAt Go.RowKit
open Go.ChangeMaps (open_string shut_string)
set_option linter.unusedVariables false

set_option maxRecDepth 100000 in
set_option maxHeartbeats 4000000 in
theorem walk (a0 : Option Addr) (n0 c0 : Nat) (z0 : List Int) (a1 : Int) (a2 : Int) (w : World) (l0 : z0.length = n0) (cp0 : n0 ≤ c0 ∧ c0 ≤ maxLen) (nz0 : a0 = none → c0 = 0) (rd0 : H.RdI w w.heap.size .i64 a0 z0) (wf0 : ∀ n ∈ z0, (Lit.int .i64 n).wf = true) (r0 : z0.length * 8 ≤ 140737488351232) (w1 : (Lit.int .i64 a1).wf = true) (w2 : (Lit.int .i64 a2).wf = true) :
    Calls Try.prog 7 #[.slice a0 n0 c0, .int .i64 a1, .int .i64 a2] w fun e w' => e = .returned (.bool true) ∧ Below w.heap.size w w' := by
  subst l0
  have q1 := H.i64_range w1
  have q2 := H.i64_range w2
  have HL := Lib.hid (fun W => K.lives_any W)
  have HT := Lib.hid (K.table_is z0 a0 c0 w.heap.size w (Nat.le_refl _) rd0 wf0 (by omega))
  have hts := K.tab_sorted z0
  have htl : (K.tab z0).length ≤ 8 := by rw [K.tab_len]; exact K.tlen_le z0
  generalize K.tab z0 = t at *
  have HA := Lib.hid (fun W => H.around_any a1 1000001 q1.1 q1.2 (by omega) (by omega) W)
  have hn := H.around_lt a1 (m := 1000001) (by omega)
  generalize H.around a1 1000001 = n at *
  obtain ⟨cc, hcc⟩ : ∃ cc, K.civ t n = cc := ⟨_, rfl⟩
  have hcb := K.off_bd hts (K.seg t n)
  have hcI : K.I64 cc := by rw [← hcc]; unfold K.civ; exact ⟨by omega, by omega⟩
  have HCV : RowKit.Hid (∀ w4 A2 c2, K.RdsLp w4 w4.heap.size A2 t → ∀ m, (0 ≤ m ∧ m ≤ 1000000) → ∀ W, K.Bl w4 W → Calls Try.prog 29 #[.slice A2 t.length c2, .int .i64 m] W fun e w' => e = .returned (.int .i64 (K.civ t m)) ∧ RowKit.Below W.heap.size W w') :=
    Lib.hid (fun w4 A2 c2 hr m hm W hW => K.civil_any t m A2 c2 w4.heap.size W hW.out.size (hr.below hW.out) (by omega) hts hm)
  have HRC : RowKit.Hid (∀ w4 A2 c2, K.RdsLp w4 w4.heap.size A2 t → ∀ W, K.Bl w4 W → Calls Try.prog 31 #[.slice A2 t.length c2, .int .i64 n] W fun e w' => e = .returned (.int .i64 cc) ∧ w' = W) :=
    Lib.hid (fun w4 A2 c2 hr W hW => by rw [← hcc]; exact K.rcivil_any t n A2 c2 w4.heap.size W hW.out.size (hr.below hW.out) (by omega) hts ⟨hn.1, by omega⟩)
  have shape : ∀ (L : List Int) (e : Ending) (W w' : World), (∃ v, e = .returned v ∧ w'.ownsRow W.heap.size 3 1 v L.length (K.ints L) ∧ RowKit.Below W.heap.size W w') → ∃ A c, e = .returned (.slice A L.length c) ∧ H.RdI w' w'.heap.size .i64 A L ∧ RowKit.Below W.heap.size W w' := by
    rintro L e W w' ⟨v, rfl, ho, hB⟩
    obtain ⟨A, c, hv⟩ := H.own_shape ho
    subst hv
    exact ⟨A, c, rfl, H.own_RdI ho, hB⟩
  have HTK : RowKit.Hid (∀ w4 A2 c2, K.RdsLp w4 w4.heap.size A2 t → ∀ d, K.I64 d → ∀ W, K.Bl w4 W → Calls Try.prog 30 #[.slice A2 t.length c2, .int .i64 d] W fun e w' => ∃ A c, e = .returned (.slice A (K.tks t d (t.length + 1)).length c) ∧ H.RdI w' w'.heap.size .i64 A (K.tks t d (t.length + 1)) ∧ RowKit.Below W.heap.size W w') :=
    Lib.hid (fun w4 A2 c2 hr d hd W hW => (K.ticks_any t d A2 c2 w4.heap.size W hW.out.size (hr.below hW.out) (by omega) hts hd).mono (fun e w' h => shape _ e W w' h))
  have HRT : RowKit.Hid (∀ w4 A2 c2, K.RdsLp w4 w4.heap.size A2 t → ∀ d, K.I64 d → ∀ W, K.Bl w4 W → Calls Try.prog 33 #[.slice A2 t.length c2, .int .i64 d] W fun e w' => ∃ A c, e = .returned (.slice A (K.tks t d (t.length + 1)).length c) ∧ H.RdI w' w'.heap.size .i64 A (K.tks t d (t.length + 1)) ∧ RowKit.Below W.heap.size W w') :=
    Lib.hid (fun w4 A2 c2 hr d hd W hW => (K.rticks_any t d A2 c2 w4.heap.size W hW.out.size (hr.below hW.out) (by omega) hts hd).mono (fun e w' h => shape _ e W w' h))
  have hl1 := K.tks_len t cc (t.length + 1)
  have hl2 := K.tks_len t a2 (t.length + 1)
  have hhas := K.tks_has t (n := n) ⟨hn.1, by omega⟩
  rw [hcc] at hhas
  have HCI := Lib.hid (fun m (hm : m ∈ K.tks t cc (t.length + 1)) => K.tks_civ hm)
  have HUP := Lib.hid (fun i a b => K.tks_up (t := t) (c := cc) (t.length + 1) i a b)
  have HT1 := Lib.hid (fun w4 A2 c2 hr => HTK.out w4 A2 c2 hr cc hcI)
  have HT2 := Lib.hid (fun w4 A2 c2 hr => HTK.out w4 A2 c2 hr a2 q2)
  have HT3 := Lib.hid (fun w4 A2 c2 hr => HRT.out w4 A2 c2 hr a2 q2)
  generalize K.tks t cc (t.length + 1) = L1 at *
  generalize K.tks t a2 (t.length + 1) = L2 at *
  have HSM : RowKit.Hid (∀ W A A' c c', H.RdI W W.heap.size .i64 A L2 → H.RdI W W.heap.size .i64 A' L2 → Calls Try.prog 32 #[.slice A L2.length c, .slice A' L2.length c'] W fun e w' => e = .returned (.bool true) ∧ RowKit.Below W.heap.size W w') :=
    Lib.hid (fun W A A' c c' h1 h2 => by have h := K.sameI_any A A' c c' L2 L2 W (by omega) (by omega) h1 h2; simpa using h)
  have HHS : RowKit.Hid (∀ W A c, H.RdI W W.heap.size .i64 A L1 → Calls Try.prog 34 #[.slice A L1.length c, .int .i64 n] W fun e w' => e = .returned (.bool true) ∧ w' = W) :=
    Lib.hid (fun W A c h1 => by have h := K.has_any A c L1 n W (by omega) h1; rwa [decide_eq_true hhas] at h)
  have HC1 : RowKit.Hid (∀ w4 A2 c2, K.RdsLp w4 w4.heap.size A2 t → ∀ W, K.Bl w4 W → Calls Try.prog 29 #[.slice A2 t.length c2, .int .i64 n] W fun e w' => e = .returned (.int .i64 cc) ∧ RowKit.Below W.heap.size W w') :=
    Lib.hid (fun w4 A2 c2 hr W hW => by rw [← hcc]; exact HCV.out w4 A2 c2 hr n ⟨hn.1, by omega⟩ W hW)
  have HCE : RowKit.Hid (∀ w4 A2 c2, K.RdsLp w4 w4.heap.size A2 t → ∀ m, m ∈ L1 → ∀ W, K.Bl w4 W → Calls Try.prog 29 #[.slice A2 t.length c2, .int .i64 m] W fun e w' => e = .returned (.int .i64 cc) ∧ RowKit.Below W.heap.size W w') :=
    Lib.hid (fun w4 A2 c2 hr m hm W hW => by have h := HCI.out m hm; have h2 := HCV.out w4 A2 c2 hr m h.2 W hW; rwa [h.1] at h2)
  have HG1 := Lib.hid (fun k (hk : k < L1.length) => (⟨L1[k], List.getElem?_eq_getElem hk⟩ : ∃ x, L1[k]? = some x))
  have hL1 : L1.length ≤ 9 := by omega
  have B0 := K.Bl.refl w
  clear hcc hcb hcI shape hhas hts cp0 nz0 rd0 wf0 r0 q1 q2 hn w1 w2 HTK HRT HCV HCI hl1 hl2
  generalize htlen : t.length = tl at *
  clear htl htlen
  have HLEN : RowKit.Hid (L1.length = L1.length) := Lib.hid rfl
  generalize hl1e : L1.length = n1 at *
  have HN1 := Lib.hid hl1e
  clear hl1e HLEN
  generalize L2.length = n2 at *
  generalize z0.length = n0 at *
  go_enter Try.func7, Try.ntmps7
  go_wp2_with (first
    | (go_at_call 28; refine HT.out.mono ?_; rintro e w4 ⟨A2, c2, rfl, hR, hB⟩; have B4 := B0.call hB; have HR4 := Lib.hid hR; have D4 := K.Bl.refl w4; clear hB hR)
    | (go_at_call 23; refine (HA.out _).mono ?_; rintro e w5 ⟨rfl, hw5⟩; rw [hw5]; clear hw5 w5)
    | (go_at_call 29; with_reducible refine (HC1.out _ _ _ HR4.out _ D4).mono ?_; rintro e w6 ⟨rfl, hB⟩; have D6 := D4.call hB; clear hB)
    | (go_at_call 30; with_reducible refine (HT1.out _ _ _ HR4.out _ D6).mono ?_; rintro e w7 ⟨A7, c7, rfl, hR, hB⟩; have D7 := D6.call hB; have HR7 := Lib.hid hR; have E7 := K.Bl.refl w7; clear hB hR)
    | (go_at_call 31; refine (HRC.out _ _ _ HR4.out _ D7).mono ?_; rintro e w8 ⟨rfl, hw8⟩; rw [hw8]; clear hw8 w8)
    | (go_at_call 30; with_reducible refine (HT2.out _ _ _ HR4.out _ D7).mono ?_; rintro e w9 ⟨A9, c9, rfl, hR, hB⟩; have D9 := D7.call hB; have E9 := E7.call hB; have HR9 := Lib.hid hR; clear hB hR)
    | (go_at_call 33; with_reducible refine (HT3.out _ _ _ HR4.out _ D9).mono ?_; rintro e w10 ⟨A10, c10, rfl, hR, hB⟩; have D10 := D9.call hB; have E10 := E9.call hB; have HR10 := Lib.hid hR; have HR9b := Lib.hid ((HR9.out.below hB).more hB.size); clear hB hR)
    | (go_at_call 32; refine (HSM.out _ _ _ _ _ HR9b.out HR10.out).mono ?_; rintro e w11 ⟨rfl, hB⟩; have D11 := D10.call hB; have E11 := E10.call hB; clear hB)
    | (go_at_call 34; refine (HHS.out _ _ _ ((HR7.out.below E11.out).more E11.out.size)).mono ?_; rintro e w12 ⟨rfl, hw12⟩; rw [hw12]; clear hw12 w12))
  go_loopg [11] n1 (fun g i wr => ∃ k : Nat, k + g = n1 ∧ i = .int .i64 (k : Nat) ∧ K.Bl w11 wr)
  case atStart => exact ⟨0, Nat.zero_add _, rfl, K.Bl.refl _⟩
  case round =>
    obtain ⟨k, hg, rfl, hBl⟩ := hrel
    have HG := Lib.hid hg
    have D := D11.call hBl.out
    have E := E11.call hBl.out
    have B11 := (B4.call D11.out).call hBl.out
    have hkl : k ≤ n1 := by omega
    clear hg
    by_cases hlt : k < n1
    · have HLT := Lib.hid hlt
      have hki : (k : Int) < (n1 : Int) := by omega
      obtain ⟨x, hx⟩ := HG1.out k hlt
      obtain ⟨ad, rfl, hadB, cx⟩ := (HR7.out.below E.out) k (by rw [HN1.out]; exact hlt)
      rw [hx] at cx
      dsimp only [Option.getD_some] at cx
      have HCX := Lib.hid (HCE.out w4 A2 c2 HR4.out x (List.mem_of_getElem? hx))
      cases k with
      | zero =>
        have hk0 : ¬ ((0 : Int) < ((0 : Nat) : Int)) := by omega
        have ha0 : ad.add 0 = ad := by simp [Addr.add]
        rw [ha0] at cx
        have cxd : wr.drew.cell? ad = some (.int .i64 x) := cx
        clear hx hlt
        go_wp2_with fail
        refine wp_region_noPanic ?_
        refine wp_region_held_drew (S := (fun W => W.cell? ad = some (.int .i64 x))) (by kernel_rfl) cxd (fun hHeld => ?_)
        refine wpAnyH_take (i := 0) (oi := { dst := some 49, op := _, type := _, pos := _, after := _, guard := _ }) (v := ?_) rfl (by kernel_rfl) (by kernel_rfl) (by kernel_rfl) (fun _ _ _ h => h) (Or.inl ⟨by rfl, ?_⟩) (by assumption) ?_
        rotate_left
        · (intro w hSw; (try dsimp only at hSw); (try obtain ⟨hS0, hS1⟩ := hSw); go_simp)
          first | done | with_reducible rfl
        try simp only [Act.put, List.setIfInBounds_toArray, List.set_cons_zero, List.set_cons_succ]
        refine wpAnyH_take (i := 1) (oi := { dst := some 50, op := _, type := _, pos := _, after := _, guard := _ }) (v := ?_) rfl (by kernel_rfl) (by kernel_rfl) (by kernel_rfl) (fun _ _ _ h => h) (Or.inl ⟨by rfl, ?_⟩) (by assumption) ?_
        rotate_left
        · (intro w hSw; (try dsimp only at hSw); (try obtain ⟨hS0, hS1⟩ := hSw); go_simp)
          first | done | with_reducible rfl
        try simp only [Act.put, List.setIfInBounds_toArray, List.set_cons_zero, List.set_cons_succ]
        refine wpAnyH_take (i := 2) (oi := { dst := some 51, op := _, type := _, pos := _, after := _, guard := _ }) (v := ?_) rfl (by kernel_rfl) (by kernel_rfl) (by kernel_rfl) (fun _ _ _ h => h) (Or.inl ⟨by rfl, ?_⟩) (by assumption) ?_
        rotate_left
        · (intro w hSw; (try dsimp only at hSw); (try obtain ⟨hS0, hS1⟩ := hSw); go_simp)
          first | done | with_reducible rfl
        try simp only [Act.put, List.setIfInBounds_toArray, List.set_cons_zero, List.set_cons_succ]
        refine wpAnyH_take (i := 3) (oi := { dst := some 52, op := _, type := _, pos := _, after := _, guard := _ }) (v := ?_) rfl (by kernel_rfl) (by kernel_rfl) (by kernel_rfl) (fun _ _ _ h => h) (Or.inl ⟨by rfl, ?_⟩) (by assumption) ?_
        rotate_left
        · (intro w hSw; (try dsimp only at hSw); (try obtain ⟨hS0, hS1⟩ := hSw); go_simp)
          first | done | with_reducible rfl
        try simp only [Act.put, List.setIfInBounds_toArray, List.set_cons_zero, List.set_cons_succ]
        refine wpAnyH_take (i := 4) (oi := { dst := some 53, op := _, type := _, pos := _, after := _, guard := _ }) (v := ?_) rfl (by kernel_rfl) (by kernel_rfl) (by kernel_rfl) (fun _ _ _ h => h) (Or.inl ⟨by rfl, ?_⟩) (by assumption) ?_
        rotate_left
        · (intro w hSw; (try dsimp only at hSw); (try obtain ⟨hS0, hS1⟩ := hSw); go_simp)
          first | done | with_reducible rfl
        try simp only [Act.put, List.setIfInBounds_toArray, List.set_cons_zero, List.set_cons_succ]
        refine wpAnyH_take (i := 6) (oi := { dst := some 55, op := _, type := _, pos := _, after := _, guard := _ }) (v := ?_) rfl (by kernel_rfl) (by kernel_rfl) (by kernel_rfl) (fun _ _ _ h => h) (Or.inl ⟨by rfl, ?_⟩) (by assumption) ?_
        rotate_left
        · (intro w hSw; (try dsimp only at hSw); (try obtain ⟨hS0, hS1⟩ := hSw); go_simp)
          first | done | with_reducible rfl
        try simp only [Act.put, List.setIfInBounds_toArray, List.set_cons_zero, List.set_cons_succ]
        refine wpAnyH_ready (rs := [5]) (by kernel_rfl) (by simp) ?_
        refine AllReadyH.cons (o := { dst := some 54, op := _, type := _, pos := _, after := _, guard := _ }) rfl (fun KK hK => ?_) AllReadyH.nil
        go_simp
        refine (HCX.out _ D.drew).mono ?_
        rintro e v9 ⟨rfl, hB⟩
        have C9 := K.below_cell hB cxd
        have F9 := hBl.drew.call hB
        clear hB
        go_wp2_with fail
        refine hK.out _ _ C9 (fun hH2 => ?_)
        clear hK KK hHeld
        rename _ => hHeld
        try simp only [Act.put, List.setIfInBounds_toArray, List.set_cons_zero, List.set_cons_succ]
        refine wpAnyH_take (i := 7) (oi := { dst := some 56, op := _, type := _, pos := _, after := _, guard := _ }) (v := ?_) rfl (by kernel_rfl) (by kernel_rfl) (by kernel_rfl) (fun _ _ _ h => h) (Or.inl ⟨by rfl, ?_⟩) (by assumption) ?_
        rotate_left
        · (intro w hSw; (try dsimp only at hSw); (try obtain ⟨hS0, hS1⟩ := hSw); go_simp)
          first | done | with_reducible rfl
        try simp only [Act.put, List.setIfInBounds_toArray, List.set_cons_zero, List.set_cons_succ]
        refine wpAnyH_take (i := 8) (oi := { dst := some 57, op := _, type := _, pos := _, after := _, guard := _ }) (v := ?_) rfl (by kernel_rfl) (by kernel_rfl) (by kernel_rfl) (fun _ _ _ h => h) (Or.inl ⟨by rfl, ?_⟩) (by assumption) ?_
        rotate_left
        · (intro w hSw; (try dsimp only at hSw); (try obtain ⟨hS0, hS1⟩ := hSw); go_simp)
          first | done | with_reducible rfl
        try simp only [Act.put, List.setIfInBounds_toArray, List.set_cons_zero, List.set_cons_succ]
        refine wpAnyH_take (i := 9) (oi := { dst := some 58, op := _, type := _, pos := _, after := _, guard := _ }) (v := ?_) rfl (by kernel_rfl) (by kernel_rfl) (by kernel_rfl) (fun _ _ _ h => h) (Or.inl ⟨by rfl, ?_⟩) (by assumption) ?_
        rotate_left
        · (intro w hSw; (try dsimp only at hSw); (try obtain ⟨hS0, hS1⟩ := hSw); go_simp)
          first | done | with_reducible rfl
        try simp only [Act.put, List.setIfInBounds_toArray, List.set_cons_zero, List.set_cons_succ]
        refine wpAnyH_take (i := 10) (oi := { dst := some 59, op := _, type := _, pos := _, after := _, guard := _ }) (v := ?_) rfl (by kernel_rfl) (by kernel_rfl) (by kernel_rfl) (fun _ _ _ h => h) (Or.inl ⟨by rfl, ?_⟩) (by assumption) ?_
        rotate_left
        · (intro w hSw; (try dsimp only at hSw); (try obtain ⟨hS0, hS1⟩ := hSw); go_simp)
          first | done | with_reducible rfl
        try simp only [Act.put, List.setIfInBounds_toArray, List.set_cons_zero, List.set_cons_succ]
        refine wpAnyH_take (i := 11) (oi := { dst := some 60, op := _, type := _, pos := _, after := _, guard := _ }) (v := ?_) rfl (by kernel_rfl) (by kernel_rfl) (by kernel_rfl) (fun _ _ _ h => h) (Or.inl ⟨by rfl, ?_⟩) (by assumption) ?_
        rotate_left
        · (intro w hSw; (try dsimp only at hSw); (try obtain ⟨hS0, hS1⟩ := hSw); go_simp)
          first | done | with_reducible rfl
        try simp only [Act.put, List.setIfInBounds_toArray, List.set_cons_zero, List.set_cons_succ]
        refine wpAnyH_take (i := 12) (oi := { dst := some 61, op := _, type := _, pos := _, after := _, guard := _ }) (v := undef) rfl (by kernel_rfl) (by kernel_rfl) (by kernel_rfl) (fun _ _ _ h => h) (Or.inr ⟨by rfl, rfl⟩) (by assumption) ?_
        try simp only [Act.put, List.setIfInBounds_toArray, List.set_cons_zero, List.set_cons_succ]
        refine wpAnyH_take (i := 13) (oi := { dst := some 62, op := _, type := _, pos := _, after := _, guard := _ }) (v := undef) rfl (by kernel_rfl) (by kernel_rfl) (by kernel_rfl) (fun _ _ _ h => h) (Or.inr ⟨by rfl, rfl⟩) (by assumption) ?_
        try simp only [Act.put, List.setIfInBounds_toArray, List.set_cons_zero, List.set_cons_succ]
        refine wpAnyH_take (i := 14) (oi := { dst := some 63, op := _, type := _, pos := _, after := _, guard := _ }) (v := undef) rfl (by kernel_rfl) (by kernel_rfl) (by kernel_rfl) (fun _ _ _ h => h) (Or.inr ⟨by rfl, rfl⟩) (by assumption) ?_
        try simp only [Act.put, List.setIfInBounds_toArray, List.set_cons_zero, List.set_cons_succ]
        refine wpAnyH_take (i := 15) (oi := { dst := some 64, op := _, type := _, pos := _, after := _, guard := _ }) (v := undef) rfl (by kernel_rfl) (by kernel_rfl) (by kernel_rfl) (fun _ _ _ h => h) (Or.inr ⟨by rfl, rfl⟩) (by assumption) ?_
        try simp only [Act.put, List.setIfInBounds_toArray, List.set_cons_zero, List.set_cons_succ]
        refine wpAnyH_take (i := 16) (oi := { dst := some 65, op := _, type := _, pos := _, after := _, guard := _ }) (v := undef) rfl (by kernel_rfl) (by kernel_rfl) (by kernel_rfl) (fun _ _ _ h => h) (Or.inr ⟨by rfl, rfl⟩) (by assumption) ?_
        try simp only [Act.put, List.setIfInBounds_toArray, List.set_cons_zero, List.set_cons_succ]
        refine wpAnyH_take (i := 17) (oi := { dst := some 66, op := _, type := _, pos := _, after := _, guard := _ }) (v := undef) rfl (by kernel_rfl) (by kernel_rfl) (by kernel_rfl) (fun _ _ _ h => h) (Or.inr ⟨by rfl, rfl⟩) (by assumption) ?_
        try simp only [Act.put, List.setIfInBounds_toArray, List.set_cons_zero, List.set_cons_succ]
        refine wpAnyH_take (i := 18) (oi := { dst := some 67, op := _, type := _, pos := _, after := _, guard := _ }) (v := undef) rfl (by kernel_rfl) (by kernel_rfl) (by kernel_rfl) (fun _ _ _ h => h) (Or.inr ⟨by rfl, rfl⟩) (by assumption) ?_
        try simp only [Act.put, List.setIfInBounds_toArray, List.set_cons_zero, List.set_cons_succ]
        refine wpAnyH_take (i := 19) (oi := { dst := some 68, op := _, type := _, pos := _, after := _, guard := _ }) (v := undef) rfl (by kernel_rfl) (by kernel_rfl) (by kernel_rfl) (fun _ _ _ h => h) (Or.inr ⟨by rfl, rfl⟩) (by assumption) ?_
        try simp only [Act.put, List.setIfInBounds_toArray, List.set_cons_zero, List.set_cons_succ]
        refine wpAnyH_take (i := 20) (oi := { dst := some 69, op := _, type := _, pos := _, after := _, guard := _ }) (v := undef) rfl (by kernel_rfl) (by kernel_rfl) (by kernel_rfl) (fun _ _ _ h => h) (Or.inr ⟨by rfl, rfl⟩) (by assumption) ?_
        try simp only [Act.put, List.setIfInBounds_toArray, List.set_cons_zero, List.set_cons_succ]
        refine wpAnyH_take (i := 21) (oi := { dst := some 70, op := _, type := _, pos := _, after := _, guard := _ }) (v := undef) rfl (by kernel_rfl) (by kernel_rfl) (by kernel_rfl) (fun _ _ _ h => h) (Or.inr ⟨by rfl, rfl⟩) (by assumption) ?_
        try simp only [Act.put, List.setIfInBounds_toArray, List.set_cons_zero, List.set_cons_succ]
        refine wpAnyH_take (i := 22) (oi := { dst := some 71, op := _, type := _, pos := _, after := _, guard := _ }) (v := ?_) rfl (by kernel_rfl) (by kernel_rfl) (by kernel_rfl) (fun _ _ _ h => h) (Or.inl ⟨by rfl, ?_⟩) (by assumption) ?_
        rotate_left
        · (intro w hSw; (try dsimp only at hSw); (try obtain ⟨hS0, hS1⟩ := hSw); go_simp)
          first | done | with_reducible rfl
        try simp only [Act.put, List.setIfInBounds_toArray, List.set_cons_zero, List.set_cons_succ]
        refine wpAnyH_take (i := 23) (oi := { dst := some 72, op := _, type := _, pos := _, after := _, guard := _ }) (v := ?_) rfl (by kernel_rfl) (by kernel_rfl) (by kernel_rfl) (fun _ _ _ h => h) (Or.inl ⟨by rfl, ?_⟩) (by assumption) ?_
        rotate_left
        · (intro w hSw; (try dsimp only at hSw); (try obtain ⟨hS0, hS1⟩ := hSw); go_simp)
          first | done | with_reducible rfl
        try simp only [Act.put, List.setIfInBounds_toArray, List.set_cons_zero, List.set_cons_succ]
        refine wpAnyH_done (by kernel_rfl) ?_ _
        refine NoPanic.normal ?_
        all_goals go_wp2_with fail
        all_goals go_roundg (gk - 1)
        case measure => have := HG.out; have := HLT.out; omega
        case rel => exact ⟨1, by have := HG.out; have := HLT.out; omega, by go_num, F9⟩
      | succ j =>
        obtain ⟨y, hy⟩ := HG1.out j (by omega)
        obtain ⟨ad2, hA2, _, cy⟩ := (HR7.out.below E.out) j (by rw [HN1.out]; omega)
        obtain rfl := Option.some.inj hA2
        rw [hy] at cy
        dsimp only [Option.getD_some] at cy
        have hup := HUP.out j y x hy hx
        have hk0 : (0 : Int) < ((j + 1 : Nat) : Int) := by omega
        have hk1 : ((j + 1 : Nat) : Int) - 1 = (j : Int) := by omega
        have hj1 : (j : Int) < (n1 : Int) := by omega
        have hw1 : IntKind.i64.wrap ((j : Int) + 1 - 1) = (j : Int) := by rw [IntWalk.i64_in _ (by omega)]; omega
        have hwj : IntKind.i64.wrap (j : Int) = (j : Int) := IntWalk.i64_in _ (by omega)
        have hj0 : (0 : Int) ≤ (j : Int) := by omega
        have hi0 : (0 : Int) ≤ (j : Int) + 1 := by omega
        have hi1 : (j : Int) + 1 < (n1 : Int) := by omega
        have hi2 : ((j : Int) + 1).toNat = j + 1 := by omega
        have hi3 : (0 : Int) < (j : Int) + 1 := by omega
        rw [show ad.add (j + 1) = ⟨ad.block, ad.off + (j + 1), none⟩ by unfold Addr.add; rw [if_neg (by omega)]] at cx
        have hle : ¬ (x ≤ y) := by omega
        have cxd : wr.drew.cell? ⟨ad.block, ad.off + (j + 1), none⟩ = some (.int .i64 x) := cx
        have cyd : wr.drew.cell? (ad.add j) = some (.int .i64 y) := cy
        clear hx hy hlt hup
        go_wp2_with fail
        refine wp_region_noPanic ?_
        refine wp_region_held_drew (S := (fun W => W.cell? ⟨ad.block, ad.off + (j + 1), none⟩ = some (.int .i64 x) ∧ W.cell? (ad.add j) = some (.int .i64 y))) (by kernel_rfl) ⟨cxd, cyd⟩ (fun hHeld => ?_)
        refine wpAnyH_take (i := 0) (oi := { dst := some 49, op := _, type := _, pos := _, after := _, guard := _ }) (v := ?_) rfl (by kernel_rfl) (by kernel_rfl) (by kernel_rfl) (fun _ _ _ h => h) (Or.inl ⟨by rfl, ?_⟩) (by assumption) ?_
        rotate_left
        · (intro w hSw; (try dsimp only at hSw); (try obtain ⟨hS0, hS1⟩ := hSw); go_simp)
          first | done | with_reducible rfl
        try simp only [Act.put, List.setIfInBounds_toArray, List.set_cons_zero, List.set_cons_succ]
        refine wpAnyH_take (i := 1) (oi := { dst := some 50, op := _, type := _, pos := _, after := _, guard := _ }) (v := ?_) rfl (by kernel_rfl) (by kernel_rfl) (by kernel_rfl) (fun _ _ _ h => h) (Or.inl ⟨by rfl, ?_⟩) (by assumption) ?_
        rotate_left
        · (intro w hSw; (try dsimp only at hSw); (try obtain ⟨hS0, hS1⟩ := hSw); go_simp)
          first | done | with_reducible rfl
        try simp only [Act.put, List.setIfInBounds_toArray, List.set_cons_zero, List.set_cons_succ]
        refine wpAnyH_take (i := 2) (oi := { dst := some 51, op := _, type := _, pos := _, after := _, guard := _ }) (v := ?_) rfl (by kernel_rfl) (by kernel_rfl) (by kernel_rfl) (fun _ _ _ h => h) (Or.inl ⟨by rfl, ?_⟩) (by assumption) ?_
        rotate_left
        · (intro w hSw; (try dsimp only at hSw); (try obtain ⟨hS0, hS1⟩ := hSw); go_simp)
          first | done | with_reducible rfl
        try simp only [Act.put, List.setIfInBounds_toArray, List.set_cons_zero, List.set_cons_succ]
        refine wpAnyH_take (i := 3) (oi := { dst := some 52, op := _, type := _, pos := _, after := _, guard := _ }) (v := ?_) rfl (by kernel_rfl) (by kernel_rfl) (by kernel_rfl) (fun _ _ _ h => h) (Or.inl ⟨by rfl, ?_⟩) (by assumption) ?_
        rotate_left
        · (intro w hSw; (try dsimp only at hSw); (try obtain ⟨hS0, hS1⟩ := hSw); go_simp)
          first | done | with_reducible rfl
        try simp only [Act.put, List.setIfInBounds_toArray, List.set_cons_zero, List.set_cons_succ]
        refine wpAnyH_take (i := 4) (oi := { dst := some 53, op := _, type := _, pos := _, after := _, guard := _ }) (v := ?_) rfl (by kernel_rfl) (by kernel_rfl) (by kernel_rfl) (fun _ _ _ h => h) (Or.inl ⟨by rfl, ?_⟩) (by assumption) ?_
        rotate_left
        · (intro w hSw; (try dsimp only at hSw); (try obtain ⟨hS0, hS1⟩ := hSw); go_simp)
          first | done | with_reducible rfl
        try simp only [Act.put, List.setIfInBounds_toArray, List.set_cons_zero, List.set_cons_succ]
        refine wpAnyH_take (i := 6) (oi := { dst := some 55, op := _, type := _, pos := _, after := _, guard := _ }) (v := ?_) rfl (by kernel_rfl) (by kernel_rfl) (by kernel_rfl) (fun _ _ _ h => h) (Or.inl ⟨by rfl, ?_⟩) (by assumption) ?_
        rotate_left
        · (intro w hSw; (try dsimp only at hSw); (try obtain ⟨hS0, hS1⟩ := hSw); go_simp)
          first | done | with_reducible rfl
        try simp only [Act.put, List.setIfInBounds_toArray, List.set_cons_zero, List.set_cons_succ]
        refine wpAnyH_ready (rs := [5]) (by kernel_rfl) (by simp) ?_
        refine AllReadyH.cons (o := { dst := some 54, op := _, type := _, pos := _, after := _, guard := _ }) rfl (fun KK hK => ?_) AllReadyH.nil
        go_simp
        refine (HCX.out _ D.drew).mono ?_
        rintro e v9 ⟨rfl, hB⟩
        have C9 := K.below_cell hB cxd
        have C8 := K.below_cell hB cyd
        have F9 := hBl.drew.call hB
        clear hB
        go_wp2_with fail
        refine hK.out _ _ ⟨C9, C8⟩ (fun hH2 => ?_)
        clear hK KK hHeld
        rename _ => hHeld
        try simp only [Act.put, List.setIfInBounds_toArray, List.set_cons_zero, List.set_cons_succ]
        refine wpAnyH_take (i := 7) (oi := { dst := some 56, op := _, type := _, pos := _, after := _, guard := _ }) (v := ?_) rfl (by kernel_rfl) (by kernel_rfl) (by kernel_rfl) (fun _ _ _ h => h) (Or.inl ⟨by rfl, ?_⟩) (by assumption) ?_
        rotate_left
        · (intro w hSw; (try dsimp only at hSw); (try obtain ⟨hS0, hS1⟩ := hSw); go_simp)
          first | done | with_reducible rfl
        try simp only [Act.put, List.setIfInBounds_toArray, List.set_cons_zero, List.set_cons_succ]
        refine wpAnyH_take (i := 8) (oi := { dst := some 57, op := _, type := _, pos := _, after := _, guard := _ }) (v := ?_) rfl (by kernel_rfl) (by kernel_rfl) (by kernel_rfl) (fun _ _ _ h => h) (Or.inl ⟨by rfl, ?_⟩) (by assumption) ?_
        rotate_left
        · (intro w hSw; (try dsimp only at hSw); (try obtain ⟨hS0, hS1⟩ := hSw); go_simp)
          first | done | with_reducible rfl
        try simp only [Act.put, List.setIfInBounds_toArray, List.set_cons_zero, List.set_cons_succ]
        refine wpAnyH_take (i := 9) (oi := { dst := some 58, op := _, type := _, pos := _, after := _, guard := _ }) (v := ?_) rfl (by kernel_rfl) (by kernel_rfl) (by kernel_rfl) (fun _ _ _ h => h) (Or.inl ⟨by rfl, ?_⟩) (by assumption) ?_
        rotate_left
        · (intro w hSw; (try dsimp only at hSw); (try obtain ⟨hS0, hS1⟩ := hSw); go_simp)
          first | done | with_reducible rfl
        try simp only [Act.put, List.setIfInBounds_toArray, List.set_cons_zero, List.set_cons_succ]
        refine wpAnyH_take (i := 10) (oi := { dst := some 59, op := _, type := _, pos := _, after := _, guard := _ }) (v := ?_) rfl (by kernel_rfl) (by kernel_rfl) (by kernel_rfl) (fun _ _ _ h => h) (Or.inl ⟨by rfl, ?_⟩) (by assumption) ?_
        rotate_left
        · (intro w hSw; (try dsimp only at hSw); (try obtain ⟨hS0, hS1⟩ := hSw); go_simp)
          first | done | with_reducible rfl
        try simp only [Act.put, List.setIfInBounds_toArray, List.set_cons_zero, List.set_cons_succ]
        refine wpAnyH_take (i := 11) (oi := { dst := some 60, op := _, type := _, pos := _, after := _, guard := _ }) (v := ?_) rfl (by kernel_rfl) (by kernel_rfl) (by kernel_rfl) (fun _ _ _ h => h) (Or.inl ⟨by rfl, ?_⟩) (by assumption) ?_
        rotate_left
        · (intro w hSw; (try dsimp only at hSw); (try obtain ⟨hS0, hS1⟩ := hSw); go_simp)
          first | done | with_reducible rfl
        try simp only [Act.put, List.setIfInBounds_toArray, List.set_cons_zero, List.set_cons_succ]
        refine wpAnyH_take (i := 12) (oi := { dst := some 61, op := _, type := _, pos := _, after := _, guard := _ }) (v := ?_) rfl (by kernel_rfl) (by kernel_rfl) (by kernel_rfl) (fun _ _ _ h => h) (Or.inl ⟨by rfl, ?_⟩) (by assumption) ?_
        rotate_left
        · (intro w hSw; (try dsimp only at hSw); (try obtain ⟨hS0, hS1⟩ := hSw); go_simp)
          first | done | with_reducible rfl
        try simp only [Act.put, List.setIfInBounds_toArray, List.set_cons_zero, List.set_cons_succ]
        refine wpAnyH_take (i := 13) (oi := { dst := some 62, op := _, type := _, pos := _, after := _, guard := _ }) (v := ?_) rfl (by kernel_rfl) (by kernel_rfl) (by kernel_rfl) (fun _ _ _ h => h) (Or.inl ⟨by rfl, ?_⟩) (by assumption) ?_
        rotate_left
        · (intro w hSw; (try dsimp only at hSw); (try obtain ⟨hS0, hS1⟩ := hSw); go_simp)
          first | done | with_reducible rfl
        try simp only [Act.put, List.setIfInBounds_toArray, List.set_cons_zero, List.set_cons_succ]
        refine wpAnyH_take (i := 14) (oi := { dst := some 63, op := _, type := _, pos := _, after := _, guard := _ }) (v := ?_) rfl (by kernel_rfl) (by kernel_rfl) (by kernel_rfl) (fun _ _ _ h => h) (Or.inl ⟨by rfl, ?_⟩) (by assumption) ?_
        rotate_left
        · (intro w hSw; (try dsimp only at hSw); (try obtain ⟨hS0, hS1⟩ := hSw); go_simp)
          first | done | with_reducible rfl
        try simp only [Act.put, List.setIfInBounds_toArray, List.set_cons_zero, List.set_cons_succ]
        refine wpAnyH_take (i := 15) (oi := { dst := some 64, op := _, type := _, pos := _, after := _, guard := _ }) (v := ?_) rfl (by kernel_rfl) (by kernel_rfl) (by kernel_rfl) (fun _ _ _ h => h) (Or.inl ⟨by rfl, ?_⟩) (by assumption) ?_
        rotate_left
        · (intro w hSw; (try dsimp only at hSw); (try obtain ⟨hS0, hS1⟩ := hSw); go_simp)
          first | done | with_reducible rfl
        try simp only [Act.put, List.setIfInBounds_toArray, List.set_cons_zero, List.set_cons_succ]
        refine wpAnyH_take (i := 16) (oi := { dst := some 65, op := _, type := _, pos := _, after := _, guard := _ }) (v := ?_) rfl (by kernel_rfl) (by kernel_rfl) (by kernel_rfl) (fun _ _ _ h => h) (Or.inl ⟨by rfl, ?_⟩) (by assumption) ?_
        rotate_left
        · (intro w hSw; (try dsimp only at hSw); (try obtain ⟨hS0, hS1⟩ := hSw); go_simp)
          first | done | with_reducible rfl
        try simp only [Act.put, List.setIfInBounds_toArray, List.set_cons_zero, List.set_cons_succ]
        refine wpAnyH_take (i := 17) (oi := { dst := some 66, op := _, type := _, pos := _, after := _, guard := _ }) (v := ?_) rfl (by kernel_rfl) (by kernel_rfl) (by kernel_rfl) (fun _ _ _ h => h) (Or.inl ⟨by rfl, ?_⟩) (by assumption) ?_
        rotate_left
        · (intro w hSw; (try dsimp only at hSw); (try obtain ⟨hS0, hS1⟩ := hSw); go_simp)
          first | done | with_reducible rfl
        try simp only [Act.put, List.setIfInBounds_toArray, List.set_cons_zero, List.set_cons_succ]
        refine wpAnyH_take (i := 18) (oi := { dst := some 67, op := _, type := _, pos := _, after := _, guard := _ }) (v := ?_) rfl (by kernel_rfl) (by kernel_rfl) (by kernel_rfl) (fun _ _ _ h => h) (Or.inl ⟨by rfl, ?_⟩) (by assumption) ?_
        rotate_left
        · (intro w hSw; (try dsimp only at hSw); (try obtain ⟨hS0, hS1⟩ := hSw); go_simp)
          first | done | with_reducible rfl
        try simp only [Act.put, List.setIfInBounds_toArray, List.set_cons_zero, List.set_cons_succ]
        refine wpAnyH_take (i := 19) (oi := { dst := some 68, op := _, type := _, pos := _, after := _, guard := _ }) (v := ?_) rfl (by kernel_rfl) (by kernel_rfl) (by kernel_rfl) (fun _ _ _ h => h) (Or.inl ⟨by rfl, ?_⟩) (by assumption) ?_
        rotate_left
        · (intro w hSw; (try dsimp only at hSw); (try obtain ⟨hS0, hS1⟩ := hSw); go_simp)
          first | done | with_reducible rfl
        try simp only [Act.put, List.setIfInBounds_toArray, List.set_cons_zero, List.set_cons_succ]
        refine wpAnyH_take (i := 20) (oi := { dst := some 69, op := _, type := _, pos := _, after := _, guard := _ }) (v := ?_) rfl (by kernel_rfl) (by kernel_rfl) (by kernel_rfl) (fun _ _ _ h => h) (Or.inl ⟨by rfl, ?_⟩) (by assumption) ?_
        rotate_left
        · (intro w hSw; (try dsimp only at hSw); (try obtain ⟨hS0, hS1⟩ := hSw); go_simp)
          first | done | with_reducible rfl
        try simp only [Act.put, List.setIfInBounds_toArray, List.set_cons_zero, List.set_cons_succ]
        refine wpAnyH_take (i := 21) (oi := { dst := some 70, op := _, type := _, pos := _, after := _, guard := _ }) (v := ?_) rfl (by kernel_rfl) (by kernel_rfl) (by kernel_rfl) (fun _ _ _ h => h) (Or.inl ⟨by rfl, ?_⟩) (by assumption) ?_
        rotate_left
        · (intro w hSw; (try dsimp only at hSw); (try obtain ⟨hS0, hS1⟩ := hSw); go_simp)
          first | done | with_reducible rfl
        try simp only [Act.put, List.setIfInBounds_toArray, List.set_cons_zero, List.set_cons_succ]
        refine wpAnyH_take (i := 22) (oi := { dst := some 71, op := _, type := _, pos := _, after := _, guard := _ }) (v := ?_) rfl (by kernel_rfl) (by kernel_rfl) (by kernel_rfl) (fun _ _ _ h => h) (Or.inl ⟨by rfl, ?_⟩) (by assumption) ?_
        rotate_left
        · (intro w hSw; (try dsimp only at hSw); (try obtain ⟨hS0, hS1⟩ := hSw); go_simp)
          first | done | with_reducible rfl
        try simp only [Act.put, List.setIfInBounds_toArray, List.set_cons_zero, List.set_cons_succ]
        refine wpAnyH_take (i := 23) (oi := { dst := some 72, op := _, type := _, pos := _, after := _, guard := _ }) (v := ?_) rfl (by kernel_rfl) (by kernel_rfl) (by kernel_rfl) (fun _ _ _ h => h) (Or.inl ⟨by rfl, ?_⟩) (by assumption) ?_
        rotate_left
        · (intro w hSw; (try dsimp only at hSw); (try obtain ⟨hS0, hS1⟩ := hSw); go_simp)
          first | done | with_reducible rfl
        try simp only [Act.put, List.setIfInBounds_toArray, List.set_cons_zero, List.set_cons_succ]
        refine wpAnyH_done (by kernel_rfl) ?_ _
        refine NoPanic.normal ?_
        all_goals go_wp2_with fail
        all_goals go_roundg (gk - 1)
        case measure => have := HG.out; have := HLT.out; omega
        case rel => exact ⟨j + 2, by have := HG.out; have := HLT.out; omega, by go_num, F9⟩
    · have hki : ¬ (k : Int) < (n1 : Int) := by omega
      clear hlt
      go_wp2_with (go_at_call 19; refine (HL.out _).mono ?_; rintro e w13 ⟨rfl, hB⟩; have B13 := B11.call hB; clear hB)
      go_ret
      exact ⟨rfl, B13.out⟩

set_option maxRecDepth 100000 in
theorem lifted (os : Os) (started : os.Started) (H0 : Type) (enc : TypeId × Value → H0) :
    ReturnsInHanded {} Try.checked os 7 .any (Rows.clockCivilSpec.pre6 enc Try.prog Try.f7 Rows.clockCivilRow.domain false) (Rows.clockCivilSpec.post enc Try.prog Try.f7 false true false false) := by
  refine returnsInHanded_of_change_sized (C := Try.checked) Go.Proofs.Ytlmbpbhdbgadjaa.O.own started (by kernel_rfl) Try.func7
    (ChangeSpec.witness6 (enc := enc) (C := Try.checked) false ⟨#[], #[.slice none 0 0, .int .i64 0, .int .i64 0], []⟩ 8 (by kernel_rfl) (by kernel_rfl) (by kernel_rfl) (by kernel_rfl)) ?_
  intro W base args ds gs before hval0 hW hcnd hsz0 _
  have hsz : (DataW.weightsEach Try.prog (Try.f7.params.toList ++ Rows.clockCivilSpec.plain.varTypes Try.prog) (ds ++ gs)).all (· ≤ reachBytes) = true := hsz0
  clear hsz0
  have hval : ∀ (j : Nat) t v, Try.f7.params[j]? = some t → args[j]? = some v → Value.okWide Try.prog W .any base t v := hval0
  have hW' := hW
  obtain ⟨p, q, hA0, hV, rfl, hfz, hnd⟩ := hW
  have hA : DataW.TrodAll enc Try.prog W 0 (fun _ => true) true Try.f7.params.toList args.toList ds p := hA0
  rw [Try.params7] at hA hval hsz
  obtain ⟨v0, vs0, d0, ds0, p0, q0, hargs, rfl, rfl, h0, r0⟩ := trodAll_cons hA
  obtain ⟨v1, vs1, d1, ds1, p1, q1, rfl, rfl, rfl, h1, r1⟩ := trodAll_cons r0
  obtain ⟨v2, vs2, d2, ds2, p2, q2, rfl, rfl, rfl, h2, r2⟩ := trodAll_cons r1
  obtain ⟨rfl, rfl, rfl⟩ := trodAll_nil r2
  obtain rfl : args = #[v0, v1, v2] := by cases args; simp_all
  obtain ⟨rfl, rfl⟩ := trodVars_none hV
  obtain ⟨a0, n0, c0, rfl⟩ := okWide_slice Try.underlying42 (hval 0 42 v0 rfl rfl)
  have k0 := h0
  have lt0 : ∀ x ∈ p0, x.block < W.heap.size := by obtain ⟨m, hm⟩ := k0; exact DataW.trod_lt m _ _ _ hm
  obtain ⟨z0, l0, cp0, cq0, nz0, rd0, wf0, bj0⟩ := Go.Proofs.Ytlmbpbhdbgadjaa.O.open_isT Try.underlying42 Try.underlying3 (by kernel_rfl) h0
  have el0 := Go.Proofs.Ytlmbpbhdbgadjaa.O.open_el Try.underlying42 Try.underlying3 (by kernel_rfl) k0
  obtain ⟨a1, rfl, rfl, rfl, w1⟩ := open_int Try.underlying3 (hval 1 3 v1 rfl rfl) h1
  obtain ⟨a2, rfl, rfl, rfl, w2⟩ := open_int Try.underlying3 (hval 2 3 v2 rfl rfl) h2
  clear hA0 hval0
  have r0 : z0.length * 8 ≤ 140737488351232 := by
    rcases el0 with h | ⟨es, sp, h, hle⟩
    · omega
    · have hr := sized_slice hsz (j := 0) (t := 42) (e := 3) (elems := es) (spare := sp) rfl (by simp [h]) Try.underlying42
      rw [show Try.prog.bytesOf 3 = 8 from by kernel_rfl] at hr
      simp only [reachBytes] at hr
      omega
  refine (walk a0 n0 c0 z0 a1 a2 W l0 ⟨cp0, cq0⟩ nz0 rd0 wf0 r0 w1 w2).mono fun e W' ⟨he, bel⟩ => ?_
  subst he
  exact ⟨_, rfl, _, _, _, [], _, [], hW', trodAll_mk1 (shut_bool Try.underlying4 _), (trodAll_cons_mk (Below.trod Go.Proofs.Ytlmbpbhdbgadjaa.O.laidOut (by kernel_rfl) (of_decide_eq_true (by kernel_rfl)) k0 bel lt0) (trodAll_cons_mk (shut_int Try.underlying3 w1) (trodAll_cons_mk (shut_int Try.underlying3 w2) trodAll_mk0))), rfl, bel.frame _, fun h => by cases h⟩

/-- ████ THE STATEMENT ████ -/
theorem proved : Rows.ClockCivilSaid :=
  OpenClaim.holds_of_wide 7 Try.f7 rfl rfl rfl rfl rfl rfl rfl ⟨rfl, rfl, rfl, rfl, rfl⟩ rfl rfl rfl rfl rfl (by kernel_rfl) Try.func7 (by kernel_rfl)
    (of_decide_eq_true (by kernel_rfl)) (by unfold Func.isWrapper; first | (rw [if_pos (by decide +kernel)]; kernel_rfl) | (rw [if_neg (by decide +kernel)]; exact ⟨rfl, rfl⟩))
    (fun os started H0 enc _ => lifted os started H0 enc)
end Go.Proofs.Ytlmbpbhdbgadjaa.clockCivil
