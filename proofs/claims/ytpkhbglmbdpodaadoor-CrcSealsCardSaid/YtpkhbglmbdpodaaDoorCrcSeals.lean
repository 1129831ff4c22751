/-
  For every byte slice, CrcSeals returns true: Seal and Open return what the specification says of slices of at most 4096 bytes, and the sealed slice opens to the slice.
-/
import Derived.Test.YtpkhbglmbdpodaaDoorCProg
import Derived.Deep.DeepCutAuto
import Derived.Deep.RegionHeld3
import Derived.Deep.LoopGhost
import Derived.Deep.QuietTactic
import Derived.Test.YtpkhbglmbdpodaaDoorApp
namespace Go.Proofs.YtpkhbglmbdpodaaDoor.crcSeals
open Go.ChangeShapes Go.WideShapes Go.ChangeAt Go.RowKit
open Go.ChangeMaps (open_string shut_string)
set_option linter.unusedVariables false
theorem open_sealed {bs : List Int} (hb : H.Byt bs) : C.openR (bs ++ C.ints (C.le4 (C.sum (C.nats bs)))) = (bs, 0) := by
  have hl : (C.ints (C.le4 (C.sum (C.nats bs)))).length = 4 := by rw [C.ints_len]; exact C.digits_len 4 _
  unfold C.openR
  rw [if_neg (by rw [List.length_append, hl]; omega)]
  have e : (bs ++ C.ints (C.le4 (C.sum (C.nats bs)))).length - 4 = bs.length := by rw [List.length_append, hl]; omega
  rw [e, List.take_left, List.drop_left, if_pos rfl]

set_option maxRecDepth 100000 in
set_option maxHeartbeats 60000000 in
theorem walk (a0 : Option Addr) (n0 c0 : Nat) (z0 : List Int) (w : World) (tb : C.Tab w) (l0 : z0.length = n0) (cp0 : n0 ≤ c0 ∧ c0 ≤ maxLen) (nz0 : a0 = none → c0 = 0) (rd0 : H.RdI w w.heap.size .u8 a0 z0) (wf0 : ∀ n ∈ z0, (Lit.int .u8 n).wf = true) (r0 : z0.length * 1 ≤ 140737488351232) :
    Calls Tryd.prog 5 #[.slice a0 n0 c0] w fun e w' => e = .returned (.bool true) ∧ Below w.heap.size w w' := by
  have hb := H.u8_byt wf0
  have TB := Lib.hid tb
  have HL := Lib.hid l0
  have HB := Lib.hid hb
  have HR := Lib.hid rd0
  have HC := Lib.hid cp0
  have HN := Lib.hid nz0
  have hpos := tb.pos
  have hop := open_sealed hb
  obtain ⟨E, hE⟩ : ∃ E, z0 ++ C.ints (C.le4 (C.sum (C.nats z0))) = E := ⟨_, rfl⟩
  rw [hE] at hop
  have hEb : H.Byt E := by rw [← hE]; exact C.byt_append hb (C.ints_byt (C.digits_byt 4 _))
  obtain ⟨m1, hm1⟩ : ∃ m, E.length = m := ⟨_, rfl⟩
  have hEl : m1 = n0 + 4 := by rw [← hm1, ← hE, List.length_append, l0, C.ints_len]; rfl
  obtain ⟨X, hX⟩ : ∃ X, (C.openR z0).1 = X := ⟨_, rfl⟩
  obtain ⟨e2, he2⟩ : ∃ e, (C.openR z0).2 = e := ⟨_, rfl⟩
  obtain ⟨m2, hm2⟩ : ∃ m, X.length = m := ⟨_, rfl⟩
  have HE := Lib.hid (And.intro hE (And.intro hEb (And.intro hm1 (And.intro hEl hop))))
  have HX := Lib.hid (And.intro hX (And.intro he2 hm2))
  clear wf0 rd0 tb hb l0 cp0 nz0 r0 hop hE hEb hm1 hEl hX he2 hm2
  go_enter Tryd.func5, Tryd.ntmps5
  by_cases hbig : (4096 : Int) < (n0 : Int)
  · have hlv := C.plives_any w TB.out
    have hbl : Below w.heap.size w w := Below.refl _ w
    have HBL := Lib.hid hbl
    clear hbl
    go_wp2_with fail
    refine hlv.mono ?_
    clear hlv
    rintro r w99 ⟨rfl, hb99⟩
    have HB99 := Lib.hid (HBL.out.trans (hb99.mono HBL.out.size))
    clear hb99
    go_wp2_with fail
    go_ret
    exact ⟨rfl, HB99.out⟩
  · have hn : n0 ≤ 4096 := by omega
    have hm1n : m1 ≤ 4100 := by have := HE.out.2.2.2.1; omega
    have hm1p : 0 < m1 := by have := HE.out.2.2.2.1; omega
    have h1 := C.pseal_any a0 n0 c0 z0 w TB.out HL.out (by omega) HC.out HN.out HB.out HR.out
    rw [HE.out.1] at h1
    go_wp2_with fail
    refine h1.mono ?_
    clear h1
    rintro r w1 ⟨v1, rfl, ho1, hB1⟩
    rw [HE.out.2.2.1] at ho1
    obtain ⟨A1, q1, rfl⟩ := H.own_shape ho1
    have HO1 := Lib.hid ho1
    have HB1 := Lib.hid hB1
    clear ho1 hB1
    have h2 := C.popen_any a0 n0 c0 z0 w1 (TB.out.below hpos HB1.out) HL.out (by omega) HC.out HN.out HB.out ((HR.out.below HB1.out).more HB1.out.size)
    rw [HX.out.1, HX.out.2.1, HX.out.2.2] at h2
    go_wp2_with fail
    refine h2.mono ?_
    clear h2
    rintro r w2 ⟨A2, q2, rfl, hx2, -, -, -, hB2⟩
    have HB2 := Lib.hid (HB1.out.trans (hB2.mono HB1.out.size))
    have HO2 := Lib.hid (H.own_kept_below HO1.out hB2)
    have HX2 := Lib.hid hx2
    clear hx2 hB2
    have h3 := C.ropen_any a0 n0 c0 z0 w2 HL.out (by omega) HC.out.1 HC.out.2 HB.out ((HR.out.below HB2.out).more HB2.out.size)
    rw [HX.out.1, HX.out.2.1, HX.out.2.2] at h3
    go_wp2_with fail
    refine h3.mono ?_
    clear h3
    rintro r w3 ⟨A3, q3, rfl, hx3, hB3⟩
    have HB3 := Lib.hid (HB2.out.trans (hB3.mono HB2.out.size))
    have HO3 := Lib.hid (H.own_kept_below HO2.out hB3)
    have HX23 := Lib.hid ((HX2.out.below hB3).more hB3.size)
    have HX3 := Lib.hid hx3
    clear hx3 hB3
    obtain ⟨_, o1, o2, o3, o4⟩ := C.own_cap (show w3.ownsRow w.heap.size 5 1 (.slice A1 m1 q1) m1 (E.map (Value.int .u8)) from HO3.out)
    have h4 := C.popen_any A1 m1 q1 E w3 (TB.out.below hpos HB3.out) HE.out.2.2.1 (by omega) ⟨o1, o2⟩ o3 HE.out.2.1 (H.own_RdI (HE.out.2.2.1 ▸ HO3.out))
    rw [HE.out.2.2.2.2] at h4
    simp only [HL.out] at h4
    clear o1 o2 o3 o4
    go_wp2_with fail
    refine h4.mono ?_
    clear h4
    rintro r w5 ⟨A4, q4, rfl, hx4, -, -, -, hB5⟩
    have HB5 := Lib.hid (HB3.out.trans (hB5.mono HB3.out.size))
    have HO5 := Lib.hid (H.own_kept_below HO3.out hB5)
    have HX25 := Lib.hid ((HX23.out.below hB5).more hB5.size)
    have HX35 := Lib.hid ((HX3.out.below hB5).more hB5.size)
    have HX4 := Lib.hid hx4
    clear hx4 hB5
    have hrd1 : H.RdI w5 w5.heap.size .u8 A1 E := H.own_RdI (n := m1) (c := q1) (HO5.out)
    have hgo : ∀ W1 : World, Below w5.heap.size w5 W1 → (convert 22 9 (.slice A1 m1 q1)).run Tryd.prog W1 = .ok (.string (strOfNums E)) W1 ∧ (convert 22 9 (.slice A2 m2 q2)).run Tryd.prog W1 = .ok (.string (strOfNums X)) W1 ∧ (convert 22 9 (.slice A3 m2 q3)).run Tryd.prog W1 = .ok (.string (strOfNums X)) W1 ∧ (convert 22 9 (.slice A4 n0 q4)).run Tryd.prog W1 = .ok (.string (strOfNums z0)) W1 ∧ (convert 22 9 (.slice a0 n0 c0)).run Tryd.prog W1 = .ok (.string (strOfNums z0)) W1 ∧ Below w5.heap.size w5 W1 := fun W1 h =>
      ⟨C.conv_str HE.out.2.2.1 (hrd1.below h), C.conv_str HX.out.2.2 (HX25.out.below h), C.conv_str HX.out.2.2 (HX35.out.below h), C.conv_str HL.out (HX4.out.below h), C.conv_str HL.out (HR.out.below (HB5.out.trans (h.mono HB5.out.size))), h⟩
    have hsl : ∀ W1 : World, Below w5.heap.size w5 W1 → Calls Tryd.prog 23 #[.slice a0 n0 c0] W1 fun r w' => ∃ g cv, r = .returned (.slice (some ⟨g, 0, none⟩) m1 cv) ∧ (convert 22 9 (.slice (some ⟨g, 0, none⟩) m1 cv)).run Tryd.prog w' = .ok (.string (strOfNums E)) w' ∧ (convert 22 9 (.slice A1 m1 q1)).run Tryd.prog w' = .ok (.string (strOfNums E)) w' ∧ (convert 22 9 (.slice A2 m2 q2)).run Tryd.prog w' = .ok (.string (strOfNums X)) w' ∧ (convert 22 9 (.slice A3 m2 q3)).run Tryd.prog w' = .ok (.string (strOfNums X)) w' ∧ (convert 22 9 (.slice A4 n0 q4)).run Tryd.prog w' = .ok (.string (strOfNums z0)) w' ∧ (convert 22 9 (.slice a0 n0 c0)).run Tryd.prog w' = .ok (.string (strOfNums z0)) w' ∧ Below w5.heap.size w5 w' := fun W1 h => by
      have hBW := HB5.out.trans (h.mono HB5.out.size)
      have h6 := C.rseal_any a0 n0 c0 z0 W1 HL.out (by omega) HN.out HB.out ((HR.out.below hBW).more hBW.size)
      rw [HE.out.1] at h6
      refine h6.mono fun r w' ⟨v, e, ho, hB⟩ => ?_
      rw [HE.out.2.2.1] at ho
      obtain ⟨g, cv, rfl, _, _⟩ := H.own_form ho (by omega)
      exact ⟨g, cv, e, C.conv_str HE.out.2.2.1 (H.own_RdI (n := m1) ho), hgo w' (h.trans (hB.mono h.size))⟩
    have hlv : ∀ W1 : World, Below w5.heap.size w5 W1 → Calls Tryd.prog 13 #[] W1 fun r w' => r = .returned (.bool true) ∧ (convert 22 9 (.slice A1 m1 q1)).run Tryd.prog w' = .ok (.string (strOfNums E)) w' ∧ (convert 22 9 (.slice A2 m2 q2)).run Tryd.prog w' = .ok (.string (strOfNums X)) w' ∧ (convert 22 9 (.slice A3 m2 q3)).run Tryd.prog w' = .ok (.string (strOfNums X)) w' ∧ (convert 22 9 (.slice A4 n0 q4)).run Tryd.prog w' = .ok (.string (strOfNums z0)) w' ∧ (convert 22 9 (.slice a0 n0 c0)).run Tryd.prog w' = .ok (.string (strOfNums z0)) w' ∧ Below w5.heap.size w5 w' := fun W1 h =>
      (C.plives_any W1 (TB.out.below hpos (HB5.out.trans (h.mono HB5.out.size)))).mono fun r w' ⟨e, hb'⟩ => ⟨e, hgo w' (h.trans (hb'.mono h.size))⟩
    obtain ⟨k0, k1, k2, k3, k4, kb⟩ := hgo w5.drew (Below.refl _ _).drew
    generalize strOfNums E = s1 at *
    generalize strOfNums X = s2 at *
    generalize strOfNums z0 = s3 at *
    have HSL := Lib.hid hsl
    have HLV := Lib.hid hlv
    clear hsl hlv hgo hrd1
    go_wp2_with fail
    refine wp_region_noPanic ?_
    refine wp_region_held_drew (S := (fun W1 => (convert 22 9 (.slice A1 m1 q1)).run Tryd.prog W1 = .ok (.string s1) W1 ∧ (convert 22 9 (.slice A2 m2 q2)).run Tryd.prog W1 = .ok (.string s2) W1 ∧ (convert 22 9 (.slice A3 m2 q3)).run Tryd.prog W1 = .ok (.string s2) W1 ∧ (convert 22 9 (.slice A4 n0 q4)).run Tryd.prog W1 = .ok (.string s3) W1 ∧ (convert 22 9 (.slice a0 n0 c0)).run Tryd.prog W1 = .ok (.string s3) W1 ∧ Below w5.heap.size w5 W1)) (by kernel_rfl) ⟨k0, k1, k2, k3, k4, kb⟩ (fun hHeld => ?_)
    refine wpAnyH_take (i := 0) (oi := { dst := some 31, op := _, type := _, pos := _, after := _, guard := _ }) (v := ?_) rfl (by kernel_rfl) (by kernel_rfl) (by kernel_rfl) (fun _ _ _ h => h) (Or.inl ⟨by rfl, ?_⟩) (by assumption) ?_
    rotate_left
    · (intro w hSw; (try dsimp only at hSw); go_simp)
      first | done | with_reducible rfl
    try simp only [Act.put, List.setIfInBounds_toArray, List.set_cons_zero, List.set_cons_succ]
    refine wpAnyH_take (i := 1) (oi := { dst := some 32, op := _, type := _, pos := _, after := _, guard := _ }) (v := ?_) rfl (by kernel_rfl) (by kernel_rfl) (by kernel_rfl) (fun _ _ _ h => h) (Or.inl ⟨by rfl, ?_⟩) (by assumption) ?_
    rotate_left
    · (intro w hSw; (try dsimp only at hSw); go_simp)
      first | done | with_reducible rfl
    try simp only [Act.put, List.setIfInBounds_toArray, List.set_cons_zero, List.set_cons_succ]
    refine wpAnyH_take (i := 2) (oi := { dst := some 33, op := _, type := _, pos := _, after := _, guard := _ }) (v := ?_) rfl (by kernel_rfl) (by kernel_rfl) (by kernel_rfl) (fun _ _ _ h => h) (Or.inl ⟨by rfl, ?_⟩) (by assumption) ?_
    rotate_left
    · (intro w hSw; (try dsimp only at hSw); go_simp)
      first | done | with_reducible rfl
    try simp only [Act.put, List.setIfInBounds_toArray, List.set_cons_zero, List.set_cons_succ]
    refine wpAnyH_ready (rs := [3]) (by kernel_rfl) (by simp) ?_
    refine AllReadyH.cons (o := { dst := some 34, op := _, type := _, pos := _, after := _, guard := _ }) rfl (fun K hK => ?_) AllReadyH.nil
    go_simp
    go_at_call 23; refine (HSL.out _ ?_).mono ?_
    · assumption
    rintro r w7 ⟨g, cv, rfl, dd, d0, d1, d2, d3, d4, db⟩
    go_wp2_with fail
    refine hK.out _ _ ⟨d0, d1, d2, d3, d4, db⟩ (fun hH2 => ?_)
    clear hK K hHeld
    rename _ => hHeld
    try simp only [Act.put, List.setIfInBounds_toArray, List.set_cons_zero, List.set_cons_succ]
    refine wpAnyH_ready (rs := [4]) (by kernel_rfl) (by simp) ?_
    refine AllReadyH.cons (o := { dst := some 35, op := _, type := _, pos := _, after := _, guard := _ }) rfl (fun K hK => ?_) AllReadyH.nil
    go_simp
    refine hK.out _ _ ⟨d0, d1, d2, d3, d4, db⟩ (fun hH2 => ?_)
    clear hK K hHeld
    rename _ => hHeld
    try simp only [Act.put, List.setIfInBounds_toArray, List.set_cons_zero, List.set_cons_succ]
    refine wpAnyH_take (i := 5) (oi := { dst := some 36, op := _, type := _, pos := _, after := _, guard := _ }) (v := ?_) rfl (by kernel_rfl) (by kernel_rfl) (by kernel_rfl) (fun _ _ _ h => h) (Or.inl ⟨by rfl, ?_⟩) (by assumption) ?_
    rotate_left
    · (intro w hSw; (try dsimp only at hSw); go_simp)
      first | done | with_reducible rfl
    try simp only [Act.put, List.setIfInBounds_toArray, List.set_cons_zero, List.set_cons_succ]
    refine wpAnyH_take (i := 6) (oi := { dst := some 37, op := _, type := _, pos := _, after := _, guard := _ }) (v := ?_) rfl (by kernel_rfl) (by kernel_rfl) (by kernel_rfl) (fun _ _ _ h => h) (Or.inl ⟨by rfl, ?_⟩) (by assumption) ?_
    rotate_left
    · (intro w hSw; (try dsimp only at hSw); go_simp)
      first | done | with_reducible rfl
    try simp only [Act.put, List.setIfInBounds_toArray, List.set_cons_zero, List.set_cons_succ]
    refine wpAnyH_take (i := 7) (oi := { dst := some 38, op := _, type := _, pos := _, after := _, guard := _ }) (v := ?_) rfl (by kernel_rfl) (by kernel_rfl) (by kernel_rfl) (fun _ _ _ h => h) (Or.inl ⟨by rfl, ?_⟩) (by assumption) ?_
    rotate_left
    · (intro w hSw; (try dsimp only at hSw); go_simp)
      first | done | with_reducible rfl
    try simp only [Act.put, List.setIfInBounds_toArray, List.set_cons_zero, List.set_cons_succ]
    refine wpAnyH_take (i := 8) (oi := { dst := some 39, op := _, type := _, pos := _, after := _, guard := _ }) (v := ?_) rfl (by kernel_rfl) (by kernel_rfl) (by kernel_rfl) (fun _ _ _ h => h) (Or.inl ⟨by rfl, ?_⟩) (by assumption) ?_
    rotate_left
    · (intro w hSw; (try dsimp only at hSw); go_simp)
      first | done | with_reducible rfl
    try simp only [Act.put, List.setIfInBounds_toArray, List.set_cons_zero, List.set_cons_succ]
    refine wpAnyH_take (i := 9) (oi := { dst := some 40, op := _, type := _, pos := _, after := _, guard := _ }) (v := ?_) rfl (by kernel_rfl) (by kernel_rfl) (by kernel_rfl) (fun _ _ _ h => h) (Or.inl ⟨by rfl, ?_⟩) (by assumption) ?_
    rotate_left
    · (intro w hSw; (try dsimp only at hSw); go_simp)
      first | done | with_reducible rfl
    try simp only [Act.put, List.setIfInBounds_toArray, List.set_cons_zero, List.set_cons_succ]
    refine wpAnyH_take (i := 10) (oi := { dst := some 41, op := _, type := _, pos := _, after := _, guard := _ }) (v := ?_) rfl (by kernel_rfl) (by kernel_rfl) (by kernel_rfl) (fun _ _ _ h => h) (Or.inl ⟨by rfl, ?_⟩) (by assumption) ?_
    rotate_left
    · (intro w hSw; (try dsimp only at hSw); go_simp)
      first | done | with_reducible rfl
    try simp only [Act.put, List.setIfInBounds_toArray, List.set_cons_zero, List.set_cons_succ]
    refine wpAnyH_take (i := 11) (oi := { dst := some 42, op := _, type := _, pos := _, after := _, guard := _ }) (v := ?_) rfl (by kernel_rfl) (by kernel_rfl) (by kernel_rfl) (fun _ _ _ h => h) (Or.inl ⟨by rfl, ?_⟩) (by assumption) ?_
    rotate_left
    · (intro w hSw; (try dsimp only at hSw); go_simp)
      first | done | with_reducible rfl
    try simp only [Act.put, List.setIfInBounds_toArray, List.set_cons_zero, List.set_cons_succ]
    refine wpAnyH_take (i := 12) (oi := { dst := some 43, op := _, type := _, pos := _, after := _, guard := _ }) (v := ?_) rfl (by kernel_rfl) (by kernel_rfl) (by kernel_rfl) (fun _ _ _ h => h) (Or.inl ⟨by rfl, ?_⟩) (by assumption) ?_
    rotate_left
    · (intro w hSw; (try dsimp only at hSw); go_simp)
      first | done | with_reducible rfl
    try simp only [Act.put, List.setIfInBounds_toArray, List.set_cons_zero, List.set_cons_succ]
    refine wpAnyH_take (i := 13) (oi := { dst := some 44, op := _, type := _, pos := _, after := _, guard := _ }) (v := ?_) rfl (by kernel_rfl) (by kernel_rfl) (by kernel_rfl) (fun _ _ _ h => h) (Or.inl ⟨by rfl, ?_⟩) (by assumption) ?_
    rotate_left
    · (intro w hSw; (try dsimp only at hSw); go_simp)
      first | done | with_reducible rfl
    try simp only [Act.put, List.setIfInBounds_toArray, List.set_cons_zero, List.set_cons_succ]
    refine wpAnyH_take (i := 14) (oi := { dst := some 45, op := _, type := _, pos := _, after := _, guard := _ }) (v := ?_) rfl (by kernel_rfl) (by kernel_rfl) (by kernel_rfl) (fun _ _ _ h => h) (Or.inl ⟨by rfl, ?_⟩) (by assumption) ?_
    rotate_left
    · (intro w hSw; (try dsimp only at hSw); go_simp)
      first | done | with_reducible rfl
    try simp only [Act.put, List.setIfInBounds_toArray, List.set_cons_zero, List.set_cons_succ]
    refine wpAnyH_take (i := 15) (oi := { dst := some 46, op := _, type := _, pos := _, after := _, guard := _ }) (v := ?_) rfl (by kernel_rfl) (by kernel_rfl) (by kernel_rfl) (fun _ _ _ h => h) (Or.inl ⟨by rfl, ?_⟩) (by assumption) ?_
    rotate_left
    · (intro w hSw; (try dsimp only at hSw); go_simp)
      first | done | with_reducible rfl
    try simp only [Act.put, List.setIfInBounds_toArray, List.set_cons_zero, List.set_cons_succ]
    refine wpAnyH_take (i := 16) (oi := { dst := some 47, op := _, type := _, pos := _, after := _, guard := _ }) (v := ?_) rfl (by kernel_rfl) (by kernel_rfl) (by kernel_rfl) (fun _ _ _ h => h) (Or.inl ⟨by rfl, ?_⟩) (by assumption) ?_
    rotate_left
    · (intro w hSw; (try dsimp only at hSw); go_simp)
      first | done | with_reducible rfl
    try simp only [Act.put, List.setIfInBounds_toArray, List.set_cons_zero, List.set_cons_succ]
    refine wpAnyH_take (i := 17) (oi := { dst := some 48, op := _, type := _, pos := _, after := _, guard := _ }) (v := ?_) rfl (by kernel_rfl) (by kernel_rfl) (by kernel_rfl) (fun _ _ _ h => h) (Or.inl ⟨by rfl, ?_⟩) (by assumption) ?_
    rotate_left
    · (intro w hSw; (try dsimp only at hSw); go_simp)
      first | done | with_reducible rfl
    try simp only [Act.put, List.setIfInBounds_toArray, List.set_cons_zero, List.set_cons_succ]
    refine wpAnyH_take (i := 18) (oi := { dst := some 49, op := _, type := _, pos := _, after := _, guard := _ }) (v := ?_) rfl (by kernel_rfl) (by kernel_rfl) (by kernel_rfl) (fun _ _ _ h => h) (Or.inl ⟨by rfl, ?_⟩) (by assumption) ?_
    rotate_left
    · (intro w hSw; (try dsimp only at hSw); go_simp)
      first | done | with_reducible rfl
    try simp only [Act.put, List.setIfInBounds_toArray, List.set_cons_zero, List.set_cons_succ]
    refine wpAnyH_take (i := 19) (oi := { dst := some 50, op := _, type := _, pos := _, after := _, guard := _ }) (v := ?_) rfl (by kernel_rfl) (by kernel_rfl) (by kernel_rfl) (fun _ _ _ h => h) (Or.inl ⟨by rfl, ?_⟩) (by assumption) ?_
    rotate_left
    · (intro w hSw; (try dsimp only at hSw); go_simp)
      first | done | with_reducible rfl
    try simp only [Act.put, List.setIfInBounds_toArray, List.set_cons_zero, List.set_cons_succ]
    refine wpAnyH_take (i := 20) (oi := { dst := some 51, op := _, type := _, pos := _, after := _, guard := _ }) (v := ?_) rfl (by kernel_rfl) (by kernel_rfl) (by kernel_rfl) (fun _ _ _ h => h) (Or.inl ⟨by rfl, ?_⟩) (by assumption) ?_
    rotate_left
    · (intro w hSw; (try dsimp only at hSw); go_simp)
      first | done | with_reducible rfl
    try simp only [Act.put, List.setIfInBounds_toArray, List.set_cons_zero, List.set_cons_succ]
    refine wpAnyH_take (i := 21) (oi := { dst := some 52, op := _, type := _, pos := _, after := _, guard := _ }) (v := ?_) rfl (by kernel_rfl) (by kernel_rfl) (by kernel_rfl) (fun _ _ _ h => h) (Or.inl ⟨by rfl, ?_⟩) (by assumption) ?_
    rotate_left
    · (intro w hSw; (try dsimp only at hSw); go_simp)
      first | done | with_reducible rfl
    try simp only [Act.put, List.setIfInBounds_toArray, List.set_cons_zero, List.set_cons_succ]
    refine wpAnyH_take (i := 22) (oi := { dst := some 53, op := _, type := _, pos := _, after := _, guard := _ }) (v := ?_) rfl (by kernel_rfl) (by kernel_rfl) (by kernel_rfl) (fun _ _ _ h => h) (Or.inl ⟨by rfl, ?_⟩) (by assumption) ?_
    rotate_left
    · (intro w hSw; (try dsimp only at hSw); go_simp)
      first | done | with_reducible rfl
    try simp only [Act.put, List.setIfInBounds_toArray, List.set_cons_zero, List.set_cons_succ]
    refine wpAnyH_take (i := 23) (oi := { dst := some 54, op := _, type := _, pos := _, after := _, guard := _ }) (v := ?_) rfl (by kernel_rfl) (by kernel_rfl) (by kernel_rfl) (fun _ _ _ h => h) (Or.inl ⟨by rfl, ?_⟩) (by assumption) ?_
    rotate_left
    · (intro w hSw; (try dsimp only at hSw); go_simp)
      first | done | with_reducible rfl
    try simp only [Act.put, List.setIfInBounds_toArray, List.set_cons_zero, List.set_cons_succ]
    refine wpAnyH_take (i := 24) (oi := { dst := some 55, op := _, type := _, pos := _, after := _, guard := _ }) (v := ?_) rfl (by kernel_rfl) (by kernel_rfl) (by kernel_rfl) (fun _ _ _ h => h) (Or.inl ⟨by rfl, ?_⟩) (by assumption) ?_
    rotate_left
    · (intro w hSw; (try dsimp only at hSw); go_simp)
      first | done | with_reducible rfl
    try simp only [Act.put, List.setIfInBounds_toArray, List.set_cons_zero, List.set_cons_succ]
    refine wpAnyH_take (i := 25) (oi := { dst := some 56, op := _, type := _, pos := _, after := _, guard := _ }) (v := ?_) rfl (by kernel_rfl) (by kernel_rfl) (by kernel_rfl) (fun _ _ _ h => h) (Or.inl ⟨by rfl, ?_⟩) (by assumption) ?_
    rotate_left
    · (intro w hSw; (try dsimp only at hSw); go_simp)
      first | done | with_reducible rfl
    try simp only [Act.put, List.setIfInBounds_toArray, List.set_cons_zero, List.set_cons_succ]
    refine wpAnyH_take (i := 26) (oi := { dst := some 57, op := _, type := _, pos := _, after := _, guard := _ }) (v := ?_) rfl (by kernel_rfl) (by kernel_rfl) (by kernel_rfl) (fun _ _ _ h => h) (Or.inl ⟨by rfl, ?_⟩) (by assumption) ?_
    rotate_left
    · (intro w hSw; (try dsimp only at hSw); go_simp)
      first | done | with_reducible rfl
    try simp only [Act.put, List.setIfInBounds_toArray, List.set_cons_zero, List.set_cons_succ]
    refine wpAnyH_take (i := 27) (oi := { dst := some 58, op := _, type := _, pos := _, after := _, guard := _ }) (v := ?_) rfl (by kernel_rfl) (by kernel_rfl) (by kernel_rfl) (fun _ _ _ h => h) (Or.inl ⟨by rfl, ?_⟩) (by assumption) ?_
    rotate_left
    · (intro w hSw; (try dsimp only at hSw); go_simp)
      first | done | with_reducible rfl
    try simp only [Act.put, List.setIfInBounds_toArray, List.set_cons_zero, List.set_cons_succ]
    refine wpAnyH_take (i := 28) (oi := { dst := some 59, op := _, type := _, pos := _, after := _, guard := _ }) (v := ?_) rfl (by kernel_rfl) (by kernel_rfl) (by kernel_rfl) (fun _ _ _ h => h) (Or.inl ⟨by rfl, ?_⟩) (by assumption) ?_
    rotate_left
    · (intro w hSw; (try dsimp only at hSw); go_simp)
      first | done | with_reducible rfl
    try simp only [Act.put, List.setIfInBounds_toArray, List.set_cons_zero, List.set_cons_succ]
    refine wpAnyH_take (i := 29) (oi := { dst := some 60, op := _, type := _, pos := _, after := _, guard := _ }) (v := ?_) rfl (by kernel_rfl) (by kernel_rfl) (by kernel_rfl) (fun _ _ _ h => h) (Or.inl ⟨by rfl, ?_⟩) (by assumption) ?_
    rotate_left
    · (intro w hSw; (try dsimp only at hSw); go_simp)
      first | done | with_reducible rfl
    try simp only [Act.put, List.setIfInBounds_toArray, List.set_cons_zero, List.set_cons_succ]
    refine wpAnyH_ready (rs := [30]) (by kernel_rfl) (by simp) ?_
    refine AllReadyH.cons (o := { dst := some 61, op := _, type := _, pos := _, after := _, guard := _ }) rfl (fun K hK => ?_) AllReadyH.nil
    go_simp
    go_at_call 13; refine (HLV.out _ ?_).mono ?_
    · assumption
    rintro r w8 ⟨rfl, f0, f1, f2, f3, f4, fb⟩
    go_wp2_with fail
    refine hK.out _ _ ⟨f0, f1, f2, f3, f4, fb⟩ (fun hH2 => ?_)
    clear hK K hHeld
    rename _ => hHeld
    try simp only [Act.put, List.setIfInBounds_toArray, List.set_cons_zero, List.set_cons_succ]
    refine wpAnyH_take (i := 31) (oi := { dst := some 62, op := _, type := _, pos := _, after := _, guard := _ }) (v := ?_) rfl (by kernel_rfl) (by kernel_rfl) (by kernel_rfl) (fun _ _ _ h => h) (Or.inl ⟨by rfl, ?_⟩) (by assumption) ?_
    rotate_left
    · (intro w hSw; (try dsimp only at hSw); go_simp)
      first | done | with_reducible rfl
    try simp only [Act.put, List.setIfInBounds_toArray, List.set_cons_zero, List.set_cons_succ]
    refine wpAnyH_take (i := 32) (oi := { dst := some 2, op := _, type := _, pos := _, after := _, guard := _ }) (v := ?_) rfl (by kernel_rfl) (by kernel_rfl) (by kernel_rfl) (fun _ _ _ h => h) (Or.inl ⟨by rfl, ?_⟩) (by assumption) ?_
    rotate_left
    · (intro w hSw; (try dsimp only at hSw); go_simp)
      first | done | with_reducible rfl
    try simp only [Act.put, List.setIfInBounds_toArray, List.set_cons_zero, List.set_cons_succ]
    refine wpAnyH_done (by kernel_rfl) ?_ _
    refine NoPanic.normal ?_
    have HEND := Lib.hid (HB5.out.trans (fb.mono HB5.out.size))
    go_wp2_with fail
    go_ret
    exact ⟨rfl, HEND.out⟩

theorem reads (os : Os) {H0 : Type} (enc : TypeId × Value → H0) : ∃ places, DataW.whole enc Tryd.prog ((Go.Proofs.YtpkhbglmbdpodaaDoor.C.laidWorld os).forCall (fun _ _ => 0) ⟨#[], #[.slice none 0 0], []⟩).memory Tryd.f5.params.toList Rows.crcSealsSpec.vars false (#[.slice none 0 0] : Array Value).toList 8 = some ([.nil], [], places) :=
  ⟨[], by kernel_rfl⟩
set_option maxRecDepth 100000 in
theorem lifted (os : Os) (started : os.Started) (H0 : Type) (enc : TypeId × Value → H0) (F0 : Stop.Interp) :
    ReturnsInHanded {} Tryd.checked os 5 .any ((OpenSpec.ofChange Rows.crcSealsSpec).preRow enc Tryd.prog Tryd.f5 Rows.crcSealsRow.domain false Rows.crcSealsRow.laid) (((OpenSpec.ofChange Rows.crcSealsSpec).at F0).post enc Tryd.prog Tryd.f5 false true false false) := by
  obtain ⟨places, hx⟩ := reads os enc
  refine returnsInHanded_of_row (C := Tryd.checked) (s := (OpenSpec.ofChange Rows.crcSealsSpec)) Go.Proofs.YtpkhbglmbdpodaaDoor.O.own started (by kernel_rfl) Tryd.func5
    (witness_row_at (enc := enc) (C := Tryd.checked) false (Go.Proofs.YtpkhbglmbdpodaaDoor.C.laidWorld os) #[.slice none 0 0] rfl (by kernel_rfl) (by kernel_rfl) (by kernel_rfl)
      (OpenSpec.preRow_of_cond 8 hx (by kernel_rfl) (fun k hk => by cases hk) (by kernel_rfl) (Go.Proofs.YtpkhbglmbdpodaaDoor.C.laid_met os _))) ?_
  intro W base args ds gs before hval0 hW _ hk0 hsz0 hL _ _
  have hsz : (DataW.weightsEach Tryd.prog (Tryd.f5.params.toList ++ (OpenSpec.ofChange Rows.crcSealsSpec).bare.plain.varTypes Tryd.prog) (ds ++ gs)).all (· ≤ reachBytes) = true := hsz0
  clear hsz0
  have hval : ∀ (j : Nat) t v, Tryd.f5.params[j]? = some t → args[j]? = some v → Value.okWide Tryd.prog W .any base t v := hval0
  have hW' := hW
  obtain ⟨p, q, hA0, hV, rfl, hfz, hnd⟩ := hW
  have hA : DataW.TrodAll enc Tryd.prog W 0 (fun _ => true) true Tryd.f5.params.toList args.toList ds p := hA0
  rw [Tryd.params5] at hA hval hsz
  obtain ⟨v0, vs0, d0, ds0, p0, q0, hargs, rfl, rfl, h0, r0⟩ := trodAll_cons hA
  obtain ⟨rfl, rfl, rfl⟩ := trodAll_nil r0
  obtain rfl : args = #[v0] := by cases args; simp_all
  obtain ⟨rfl, rfl⟩ := trodVars_none hV
  obtain ⟨a0, n0, c0, rfl⟩ := okWide_slice Tryd.underlying22 (hval 0 22 v0 rfl rfl)
  have k0 := h0
  have lt0 : ∀ x ∈ p0, x.block < W.heap.size := by obtain ⟨m, hm⟩ := k0; exact DataW.trod_lt m _ _ _ hm
  obtain ⟨z0, l0, cp0, cq0, nz0, rd0, wf0, bj0⟩ := Go.Proofs.YtpkhbglmbdpodaaDoor.O.open_isT Tryd.underlying22 Tryd.underlying5 (by kernel_rfl) h0
  have el0 := Go.Proofs.YtpkhbglmbdpodaaDoor.O.open_el Tryd.underlying22 Tryd.underlying5 (by kernel_rfl) k0
  clear hA0 hval0
  have r0 : z0.length * 1 ≤ 140737488351232 := by
    rcases el0 with h | ⟨es, sp, h, hle⟩
    · omega
    · have hr := sized_slice hsz (j := 0) (t := 22) (e := 5) (elems := es) (spare := sp) rfl (by simp [h]) Tryd.underlying22
      rw [show Tryd.prog.bytesOf 5 = 1 from by kernel_rfl] at hr
      simp only [reachBytes] at hr
      omega
  have tb := Go.Proofs.YtpkhbglmbdpodaaDoor.C.tab_of_laid hL
  refine (walk a0 n0 c0 z0 W tb l0 ⟨cp0, cq0⟩ nz0 rd0 wf0 r0).mono fun e W' ⟨he, bel⟩ => ?_
  subst he
  exact ⟨_, rfl, _, _, _, [], _, [], hW', trodAll_mk1 (shut_bool Tryd.underlying4 _), (trodAll_cons_mk (Below.trod Go.Proofs.YtpkhbglmbdpodaaDoor.O.laidOut (by kernel_rfl) (of_decide_eq_true (by kernel_rfl)) k0 bel lt0) trodAll_mk0), rfl, bel.frame _, fun h => by cases h⟩

theorem said : Rows.CrcSealsSaid :=
  OpenClaim.holds_of_cond 5 Tryd.f5 rfl rfl rfl rfl rfl rfl rfl ⟨rfl, rfl, rfl, rfl, rfl⟩ rfl rfl rfl rfl rfl (by kernel_rfl) Tryd.func5 (by kernel_rfl)
    (of_decide_eq_true (by kernel_rfl)) (by unfold Func.isWrapper; first | (rw [if_pos (by decide +kernel)]; kernel_rfl) | (rw [if_neg (by decide +kernel)]; exact ⟨rfl, rfl⟩))
    (fun os started H0 enc _ F0 => by rw [OpenClaim.pre_eq_preRow]; exact lifted os started H0 enc F0)
theorem plain (f : FuncId) (fn : Func) (hf : Tryd.pinned.checked.prog.funcNamed "perigee/perigeelaw03.CrcSeals" = some f) (hfn : Tryd.pinned.checked.prog.funcs[f]? = some fn) :
    false = Tryd.pinned.checked.prog.looks [] ∧ ∀ (j : Nat) t, fn.params[j]? = some t → Tryd.pinned.checked.prog.wantsStandIn t = false := by
  obtain rfl : f = 5 := Option.some.inj ((show Tryd.prog.funcNamed "perigee/perigeelaw03.CrcSeals" = some 5 by kernel_rfl).symm.trans hf) |>.symm
  obtain rfl : fn = Tryd.f5 := (Option.some.inj (Tryd.func5.symm.trans hfn)).symm
  refine ⟨by kernel_rfl, fun j t ht => ?_⟩
  rw [Tryd.params5] at ht
  have hm : t ∈ [22] := by simpa using Array.mem_of_getElem? ht
  have hall : ([22].all fun u => !Tryd.prog.wantsStandIn u) = true := by kernel_rfl
  exact (show Tryd.prog.wantsStandIn t = false by simpa using List.all_eq_true.1 hall t hm)
/-- ████ THE CARD ████ -/
theorem proved : Rows.CrcSealsCardSaid :=
  Claim7.holds_tied_plain_at .later [] _ _ _ _ said (fun _ h => by cases h) (by kernel_rfl) (fun _ h => by cases h) crcSeals_row_tie rfl ⟨rfl, rfl⟩ (by kernel_rfl) rfl plain (by kernel_rfl)
end Go.Proofs.YtpkhbglmbdpodaaDoor.crcSeals
