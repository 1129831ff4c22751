/-
  HashKeys (P1.5, P1.6): for every two keys and byte slice, Step and the tags under the two keys are equal exactly if the keys are, and the chapter's examples hold; for every input, without a condition.
-/
import Derived.Test.YtcgppbbpdnobfaaHFrame
namespace Go.Proofs.Ytcgppbbpdnobfaa.hashKeys
open Go.ChangeShapes Go.WideShapes Go.ChangeAt Go.RowKit
open Go.ChangeMaps (open_string shut_string)
set_option linter.unusedVariables false
theorem u64_range {a : Int} (h : (Lit.int .u64 a).wf = true) : 0 ≤ a ∧ a < 18446744073709551616 := by
  simp [Lit.wf, IntKind.min, IntKind.max, IntKind.signed, IntKind.bits] at h
  omega
theorem keys_tag {a b : Int} (ha : (Lit.int .u64 a).wf = true) (hb : (Lit.int .u64 b).wf = true) (m : List Int) : H.tagI a m = H.tagI b m ↔ a = b := by
  have h1 := u64_range ha
  have h2 := u64_range hb
  unfold H.tagI H.sumI
  simp only [List.cons_append, List.nil_append, List.length_cons, H.foldI_cons]
  rw [H.foldI_left _ (H.mixI_range _ _) (H.mixI_range _ _), H.mixI_right]
  omega
theorem keys_step {a b : Int} (ha : (Lit.int .u64 a).wf = true) (hb : (Lit.int .u64 b).wf = true) (g : Int) : H.mixI a g = H.mixI b g ↔ a = b := by
  have h1 := u64_range ha
  have h2 := u64_range hb
  rw [H.mixI_left]
  omega

set_option maxHeartbeats 1000000 in
theorem walk (a0 : Int) (a1 : Int) (a2 : Option Addr) (n2 c2 : Nat) (z2 : List Int) (w : World) (w0 : (Lit.int .u64 a0).wf = true) (w1 : (Lit.int .u64 a1).wf = true) (r2 : n2 ≤ 140737488351232) (l2 : z2.length = n2) (rd2 : H.RdI w w.heap.size .u8 a2 z2) (wf2 : ∀ n ∈ z2, (Lit.int .u8 n).wf = true) :
    Calls Try.prog 8 #[.int .u64 a0, .int .u64 a1, .slice a2 n2 c2] w fun e w' => e = .returned (.bool true) ∧ Below w.heap.size w w' := by
  have hb := H.u8_byt wf2
  have k1 := keys_step w0 w1 H.gold
  have k2 := keys_tag w0 w1 z2
  have HR := Lib.hid rd2
  have HL := Lib.hid l2
  have HB := Lib.hid hb
  clear rd2 l2 wf2 hb w0 w1
  generalize hs0 : H.mixI a0 H.gold = s0 at k1
  generalize hs1 : H.mixI a1 H.gold = s1 at k1
  generalize ht0 : H.tagI a0 z2 = t0 at k2
  generalize ht1 : H.tagI a1 z2 = t1 at k2
  have HS0 := Lib.hid hs0
  have HS1 := Lib.hid hs1
  have HT0 := Lib.hid ht0
  have HT1 := Lib.hid ht1
  clear hs0 hs1 ht0 ht1
  have e1 : (s0 == s1) = (a0 == a1) := by rw [Bool.eq_iff_iff]; simpa using k1
  have e2 : (t0 == t1) = (a0 == a1) := by rw [Bool.eq_iff_iff]; simpa using k2
  clear k1 k2
  have E1 := Lib.hid e1
  have E2 := Lib.hid e2
  clear e1 e2
  obtain ⟨c, hc⟩ : ∃ c : Bool, (a0 == a1) = c := ⟨_, rfl⟩
  have f1 : (s0 == s1) = c := E1.out.trans hc
  have f2 : (t0 == t1) = c := E2.out.trans hc
  clear E1 E2
  go_enter Try.func8, Try.ntmps8
  go_wp2_with fail
  refine (H.step_any a0 w).mono ?_
  rw [HS0.out]
  rintro e w' ⟨rfl, rfl⟩
  go_wp2_with fail
  refine (H.step_any a1 w).mono ?_
  rw [HS1.out]
  rintro e w' ⟨rfl, rfl⟩
  go_wp2_with fail
  refine (H.tag_any a0 a2 n2 c2 z2 w HB.out HL.out r2 HR.out).mono ?_
  rw [HT0.out]
  rintro e w1 ⟨rfl, b1⟩
  go_wp2_with fail
  refine (H.tag_any a1 a2 n2 c2 z2 w1 HB.out HL.out r2 ((HR.out.below b1).more b1.size)).mono ?_
  rw [HT1.out]
  rintro e w2 ⟨rfl, b2⟩
  have B2 := b1.trans (b2.mono b1.size)
  go_wp2_with fail
  refine (H.lives_any w2).mono ?_
  rintro e w3 ⟨rfl, b3⟩
  have B3 := B2.trans (b3.mono B2.size)
  go_wp2_with fail
  go_ret
  exact ⟨rfl, B3⟩

set_option maxRecDepth 100000 in
theorem lifted (os : Os) (started : os.Started) (H0 : Type) (enc : TypeId × Value → H0) :
    ReturnsInHanded {} Try.checked os 8 .any (Rows.hashKeysSpec.pre6 enc Try.prog Try.f8 Rows.hashKeysRow.domain false) (Rows.hashKeysSpec.post enc Try.prog Try.f8 false true false false) := by
  refine returnsInHanded_of_change_sized (C := Try.checked) H.own started (by kernel_rfl) Try.func8
    (ChangeSpec.witness6 (enc := enc) (C := Try.checked) false ⟨#[], #[.int .u64 0, .int .u64 0, .slice none 0 0], []⟩ 8 (by kernel_rfl) (by kernel_rfl) (by kernel_rfl) (by kernel_rfl)) ?_
  intro W base args ds gs before hval0 hW hcnd hsz0 _
  have hsz : (DataW.weightsEach Try.prog (Try.f8.params.toList ++ Rows.hashKeysSpec.plain.varTypes Try.prog) (ds ++ gs)).all (· ≤ reachBytes) = true := hsz0
  clear hsz0
  have hval : ∀ (j : Nat) t v, Try.f8.params[j]? = some t → args[j]? = some v → Value.okWide Try.prog W .any base t v := hval0
  have hW' := hW
  obtain ⟨p, q, hA0, hV, rfl, hfz, hnd⟩ := hW
  have hA : DataW.TrodAll enc Try.prog W 0 (fun _ => true) true Try.f8.params.toList args.toList ds p := hA0
  rw [Try.params8] at hA hval hsz
  obtain ⟨v0, vs0, d0, ds0, p0, q0, hargs, rfl, rfl, h0, r0⟩ := trodAll_cons hA
  obtain ⟨v1, vs1, d1, ds1, p1, q1, rfl, rfl, rfl, h1, r1⟩ := trodAll_cons r0
  obtain ⟨v2, vs2, d2, ds2, p2, q2, rfl, rfl, rfl, h2, r2⟩ := trodAll_cons r1
  obtain ⟨rfl, rfl, rfl⟩ := trodAll_nil r2
  obtain rfl : args = #[v0, v1, v2] := by cases args; simp_all
  obtain ⟨rfl, rfl⟩ := trodVars_none hV
  obtain ⟨a0, rfl, rfl, rfl, w0⟩ := open_int Try.underlying23 (hval 0 23 v0 rfl rfl) h0
  obtain ⟨a1, rfl, rfl, rfl, w1⟩ := open_int Try.underlying23 (hval 1 23 v1 rfl rfl) h1
  obtain ⟨a2, n2, c2, rfl⟩ := okWide_slice Try.underlying28 (hval 2 28 v2 rfl rfl)
  have k2 := h2
  have lt2 : ∀ x ∈ p2, x.block < W.heap.size := by obtain ⟨m, hm⟩ := k2; exact DataW.trod_lt m _ _ _ hm
  obtain ⟨z2, l2, rd2, wf2, el2⟩ := H.open_lst Try.underlying28 Try.underlying5 (by kernel_rfl) h2
  clear hA0 hval0
  have r2 : n2 ≤ 140737488351232 := by
    rcases el2 with h | ⟨es, sp, h, hle⟩
    · omega
    · have hr := sized_slice hsz (j := 2) (t := 28) (e := 5) (elems := es) (spare := sp) rfl (by simp [h]) Try.underlying28
      rw [H.bytesU8] at hr
      simp only [reachBytes] at hr
      omega
  refine (walk a0 a1 a2 n2 c2 z2 W w0 w1 r2 l2 rd2 wf2).mono fun e W' ⟨he, bel⟩ => ?_
  subst he
  exact ⟨_, rfl, _, _, _, [], _, [], hW', trodAll_mk1 (shut_bool Try.underlying4 _), (trodAll_cons_mk (shut_int Try.underlying23 w0) (trodAll_cons_mk (shut_int Try.underlying23 w1) (trodAll_cons_mk (Below.trod H.laidOut (by kernel_rfl) (of_decide_eq_true (by kernel_rfl)) k2 bel lt2) trodAll_mk0))), rfl, bel.frame _, fun h => by cases h⟩

/-- ████ THE STATEMENT ████ -/
theorem proved : Rows.HashKeysSaid :=
  OpenClaim.holds_of_wide 8 Try.f8 rfl rfl rfl rfl rfl rfl rfl ⟨rfl, rfl, rfl, rfl, rfl⟩ rfl rfl rfl rfl rfl (by kernel_rfl) Try.func8 (by kernel_rfl)
    (of_decide_eq_true (by kernel_rfl)) (by unfold Func.isWrapper; first | (rw [if_pos (by decide +kernel)]; kernel_rfl) | (rw [if_neg (by decide +kernel)]; exact ⟨rfl, rfl⟩))
    (fun os started H0 enc _ => lifted os started H0 enc)
end Go.Proofs.Ytcgppbbpdnobfaa.hashKeys
