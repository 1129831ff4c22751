/-
  The program's Open.
-/
import Derived.Test.YtpkhbglmbdpodaaDoorCSl
import Derived.Test.YtpkhbglmbdpodaaDoorVClone
import Derived.Deep.QuietTactic
import Derived.BigQuiet
import Derived.WalkSmall
import Derived.Laws.Cover3
import Derived.Deep.RegionWith
import Derived.Deep.DeepCutAuto
namespace Go.Proofs.YtpkhbglmbdpodaaDoor
open Go.RowKit
namespace C
open H
set_option linter.unusedVariables false

set_option maxRecDepth 100000 in
set_option maxHeartbeats 1000000 in
theorem popen_any (A : Option Addr) (n c : Nat) (bs : List Int) (w : World) (tb : Tab w) (hl : bs.length = n) (hn : n ≤ 140737488351200) (hc : n ≤ c ∧ c ≤ maxLen) (hnil : A = none → c = 0) (hb : Byt bs) (hrd : RdI w w.heap.size .u8 A bs) :
    Calls Tryd.prog 21 #[.slice A n c] w fun e w' => ∃ Av cv, e = .returned (.tuple #[.slice Av (openR bs).1.length cv, .int .i64 (openR bs).2]) ∧ RdI w' w'.heap.size .u8 Av (openR bs).1 ∧ (openR bs).1.length ≤ cv ∧ cv ≤ maxLen ∧ (Av = none → cv = 0) ∧ Below w.heap.size w w' := by
  by_cases h4 : n < 4
  · have e : openR bs = ([], 6) := by unfold openR; rw [if_pos (by omega)]
    rw [e]
    have h5 : (n : Int) < 4 := by omega
    clear e hl hb hrd h4 hc hnil tb
    go_enter Tryd.func21, Tryd.ntmps21
    go_wp2_with fail
    refine bodyPost_ret (v := .tuple #[.slice none 0 0, .int .i64 6]) (by simp [results, Tryd.results21, go_sem]) rfl ?_
    exact ⟨none, 0, rfl, RdI.nil, Nat.le_refl _, by unfold maxLen; omega, fun _ => rfl, Below.refl _ _⟩
  · obtain ⟨m, rfl⟩ : ∃ m, n = m + 4 := ⟨n - 4, by omega⟩
    rcases A with _ | ad
    · obtain ⟨_, e, _⟩ := hrd 0 (by omega)
      cases e
    have hpos := tb.pos
    have hf := rd_front hrd m
    have hk := rd_back hrd m
    have hlf : (bs.take m).length = m := by rw [List.length_take]; omega
    have hlk : (bs.drop m).length = 4 := by rw [List.length_drop]; omega
    have hbf := byt_take hb m
    have hbk : Byt (bs.drop m) := fun x hx => hb x (List.mem_of_mem_drop hx)
    have hopen : openR bs = if bs.drop m = ints (le4 (sum (nats (bs.take m)))) then (bs.take m, 0) else ([], 8) := by
      unfold openR
      rw [if_neg (by omega), show bs.length - 4 = m from by omega]
    have hcm : c ≤ 9223372036854775807 := hc.2
    have hc4 := hc.1
    have HF := Lib.hid hf
    have HK := Lib.hid hk
    have HLF := Lib.hid hlf
    have HLK := Lib.hid hlk
    have HBF := Lib.hid hbf
    have HBK := Lib.hid hbk
    have HOP := Lib.hid hopen
    have TB := Lib.hid tb
    have HP := Lib.hid hpos
    obtain ⟨d, hd⟩ : ∃ d, sum (nats (bs.take m)) = d := ⟨_, rfl⟩
    have hdl : d < 4294967296 := by rw [← hd]; exact sum_lt _
    have HSU := Lib.hid (show ∀ W1 : World, Below w.heap.size w W1 → Calls Tryd.prog 14 #[.slice (some ad) m c] W1 fun r w' => r = .returned (.int .u32 d) ∧ w' = W1 from fun W1 h => by
      rw [← hd]
      exact psum_same (some ad) m c (bs.take m) W1 (TB.out.below HP.out h) HLF.out (by omega) HBF.out ((HF.out.below h).more h.size))
    have HSB := Lib.hid (fun W1 => psb_any d W1 hdl)
    obtain ⟨bq, hbq⟩ : ∃ bq, decide (bs.drop m = ints (le4 d)) = bq := ⟨_, rfl⟩
    have HNQ := Lib.hid (show ∀ W : World, (binOp .neq 61 (.agg ((bs.drop m).map (Value.int .u8)).toArray) (.agg (arr4 d))).run Tryd.prog W = .ok (.bool (!bq)) W from fun W => by
      rw [← hbq]
      exact run_neq_arr W 61 5 4 Tryd.underlying61 Tryd.underlying5 Tryd.sizeOf5 HLK.out (by rw [ints_len]; exact digits_len 4 d) HBK.out (ints_byt (digits_byt 4 d)))
    have HCL := Lib.hid (show ∀ W1 : World, Below w.heap.size w W1 → ∀ j v, ((bs.drop m).map (Value.int .u8))[j]? = some v → W1.cell? ((ad.add m).add j) = some v from fun W1 h j v hv => by
      have h3 := (HK.out.below h).news 4 j v
      rw [List.take_of_length_le (by rw [HLK.out]; exact Nat.le_refl _)] at h3
      exact h3 hv)
    have HBQ := Lib.hid (And.intro hd hbq)
    have HK4 := Lib.hid (show ((bs.drop m).map (Value.int .u8)).length = 4 by rw [List.length_map, HLK.out])
    generalize (bs.drop m).map (Value.int .u8) = KL at HNQ HCL HK4
    clear hd hdl hbq hl hrd hf hk hlf hlk hbf hbk hopen hb h4 hc hnil tb hpos
    go_enter Tryd.func21, Tryd.ntmps21
    have q0 : (0 : Int) ≤ (m : Int) := by omega
    have q1 : (m : Int) ≤ (c : Int) := by omega
    have q2 : (m : Int) ≤ (m : Int) + 4 := by omega
    have q3 : (m : Int) + 4 ≤ (c : Int) := by omega
    go_wp2_with fail
    go_quiet (fail)
    obtain ⟨w0, hw0⟩ : ∃ w0, w0 = w.drewN nq := ⟨_, rfl⟩
    have hB0 : Below w.heap.size w w0 := by rw [hw0]; exact below_drewN (Below.refl _ _) nq
    rw [← hw0]
    clear hw0
    have harr : ∀ W, (Instr.arrayAt 61 (.slice (some (ad.add m)) 4 (c - m))).run Tryd.prog W = .ok (.pointer (some (ad.add m))) W := fun W => run_arrayAt W 61 5 4 (some (ad.add m)) 4 (c - m) Tryd.underlying61 (Nat.le_refl _)
    go_wp2_with fail
    refine wp_region_noPanic ?_
    refine wp_region_held_drew (S := fun W1 => Below w.heap.size w W1) (by kernel_rfl) hB0.drew (fun hHeld => ?_)
    refine wpAnyH_take (i := 0) (oi := { dst := some 19, op := _, type := _, pos := _, after := _, guard := _ }) (v := ?_) rfl (by kernel_rfl) (by kernel_rfl) (by kernel_rfl) (fun _ _ _ h => h) (Or.inl ⟨by rfl, ?_⟩) (by assumption) ?_
    rotate_left
    · (intro w hSw; (try dsimp only at hSw); go_simp)
      first | done | with_reducible rfl
    try simp only [Act.put, List.setIfInBounds_toArray, List.set_cons_zero, List.set_cons_succ]
    refine wpAnyH_take (i := 1) (oi := { dst := some 20, op := _, type := _, pos := _, after := _, guard := _ }) (v := ?_) rfl (by kernel_rfl) (by kernel_rfl) (by kernel_rfl) (fun _ _ _ h => h) (Or.inl ⟨by rfl, ?_⟩) (by assumption) ?_
    rotate_left
    · (intro w hSw; (try dsimp only at hSw); go_simp)
      first | done | with_reducible rfl
    try simp only [Act.put, List.setIfInBounds_toArray, List.set_cons_zero, List.set_cons_succ]
    refine wpAnyH_take (i := 2) (oi := { dst := some 21, op := _, type := _, pos := _, after := _, guard := _ }) (v := (.agg KL.toArray)) rfl (by kernel_rfl) (by kernel_rfl) (by kernel_rfl) (fun _ _ _ h => h) (Or.inl ⟨by rfl, ?_⟩) (by assumption) ?_
    · intro w1 hSw
      refine exec_load_cells 61 (.tmp 20) ?_ (ad.add m) ?_ KL (HCL.out w1 hSw) _ Tryd.underlying61 rfl (by rw [HK4.out]; exact size61) <;> rfl
    try simp only [Act.put, List.setIfInBounds_toArray, List.set_cons_zero, List.set_cons_succ]
    refine wpAnyH_take (i := 3) (oi := { dst := some 22, op := _, type := _, pos := _, after := _, guard := _ }) (v := ?_) rfl (by kernel_rfl) (by kernel_rfl) (by kernel_rfl) (fun _ _ _ h => h) (Or.inl ⟨by rfl, ?_⟩) (by assumption) ?_
    rotate_left
    · (intro w hSw; (try dsimp only at hSw); go_simp)
      first | done | with_reducible rfl
    try simp only [Act.put, List.setIfInBounds_toArray, List.set_cons_zero, List.set_cons_succ]
    refine wpAnyH_ready (rs := [4]) (by kernel_rfl) (by simp) ?_
    refine AllReadyH.cons (o := { dst := some 23, op := _, type := _, pos := _, after := _, guard := _ }) rfl (fun K hK => ?_) AllReadyH.nil
    go_simp
    refine (HSU.out _ hB0.drew).mono ?_
    rintro r w2 ⟨rfl, hw2⟩
    have hB2 : Below w.heap.size w w2 := by rw [hw2]; exact hB0.drew
    clear hw2
    go_wp2_with fail
    refine hK.out _ _ hB2 (fun hH2 => ?_)
    clear hK K hHeld
    rename _ => hHeld
    try simp only [Act.put, List.setIfInBounds_toArray, List.set_cons_zero, List.set_cons_succ]
    refine wpAnyH_ready (rs := [5]) (by kernel_rfl) (by simp) ?_
    refine AllReadyH.cons (o := { dst := some 24, op := _, type := _, pos := _, after := _, guard := _ }) rfl (fun K hK => ?_) AllReadyH.nil
    go_simp
    refine (HSB.out _).mono ?_
    rintro r w3 ⟨rfl, hb3⟩
    have hB3 : Below w.heap.size w w3 := hB2.trans (hb3.mono hB2.size)
    clear hb3
    go_wp2_with fail
    refine hK.out _ _ hB3 (fun hH2 => ?_)
    clear hK K hHeld
    rename _ => hHeld
    try simp only [Act.put, List.setIfInBounds_toArray, List.set_cons_zero, List.set_cons_succ]
    refine wpAnyH_take (i := 6) (oi := { dst := some 25, op := _, type := _, pos := _, after := _, guard := _ }) (v := (.bool (!bq))) rfl (by kernel_rfl) (by kernel_rfl) (by kernel_rfl) (fun _ _ _ h => h) (Or.inl ⟨by rfl, ?_⟩) (by assumption) ?_
    · intro w1 hSw
      refine exec_binop .neq 61 61 (.tmp 21) (.tmp 24) ?_ (.agg KL.toArray) (.agg (arr4 d)) ?_ ?_ (run_eqGuard_agg _ _ _ _ _ _ _ (by kernel_rfl)) (HNQ.out w1) <;> rfl
    try simp only [Act.put, List.setIfInBounds_toArray, List.set_cons_zero, List.set_cons_succ]
    refine wpAnyH_done (by kernel_rfl) ?_ _
    refine NoPanic.normal ?_
    have HB3 := Lib.hid hB3
    have hclone := W.clone_any (some ad) m c (bs.take m) w3 HLF.out (by omega) (fun h => by cases h) ((HF.out.below HB3.out).more HB3.out.size)
    clear hHeld harr hB0 hB2 hB3
    cases bq
    · have h1 : ¬ bs.drop m = ints (le4 d) := of_decide_eq_false HBQ.out.2
      have hop := HOP.out
      rw [HBQ.out.1, if_neg h1] at hop
      have HOP3 := Lib.hid hop
      clear hop h1 hclone
      go_wp2_with fail
      refine bodyPost_ret (v := .tuple #[.slice none 0 0, .int .i64 8]) (by simp [results, Tryd.results21, go_sem]) rfl ?_
      rw [HOP3.out]
      exact ⟨none, 0, rfl, RdI.nil, Nat.le_refl _, by unfold maxLen; omega, fun _ => rfl, HB3.out⟩
    · have h1 : bs.drop m = ints (le4 d) := of_decide_eq_true HBQ.out.2
      have hop := HOP.out
      rw [HBQ.out.1, if_pos h1] at hop
      have HOP3 := Lib.hid hop
      clear hop h1
      go_wp2_with fail
      refine hclone.mono ?_
      clear hclone
      rintro r w4 ⟨v, rfl, ho, hB4⟩
      have ho2 : w4.ownsRow w3.heap.size 5 1 v m ((bs.take m).map (Value.int .u8)) := by
        have h := ho
        rwa [HLF.out] at h
      obtain ⟨Av, cv, rfl⟩ := own_shape ho2
      have HO := Lib.hid (And.intro ho2 hB4)
      clear ho ho2 hB4
      go_wp2_with fail
      refine bodyPost_ret (v := .tuple #[.slice Av m cv, .int .i64 0]) (by simp [results, Tryd.results21, go_sem]) rfl ?_
      rw [HOP3.out]
      have hcap := own_cap HO.out.1
      exact ⟨Av, cv, by rw [HLF.out], own_RdI HO.out.1, by rw [HLF.out]; exact hcap.2.1, hcap.2.2.1, hcap.2.2.2.1, HB3.out.trans (HO.out.2.mono HB3.out.size)⟩
end C
end Go.Proofs.YtpkhbglmbdpodaaDoor
